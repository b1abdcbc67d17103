/-
  The front of an answer, by contracts: isState, stateWords, front.
-/
import Derived.Test.YtdbinhbmhkbfeaaGreatDoorHttpD
import Derived.Test.YtdbinhbmhkbfeaaGreatDoorHttpAm
import Derived.Test.YtdbinhbmhkbfeaaGreatDoorHttpDc
namespace Go.Proofs.YtdbinhbmhkbfeaaGreatDoor
open Go.RowKit Mem Go.Sort
set_option linter.unusedVariables false
set_option maxRecDepth 100000

theorem stateWords_any (s : Nat) (w : World) : Calls Tryz.prog 25 #[.int .i64 (s : Int)] w (SaysT (M.wordsOf s) w) := by
  have h : s = 200 ∨ s = 201 ∨ s = 400 ∨ s = 404 ∨ s = 405 ∨ s = 409 ∨ s = 410 ∨ s = 413 ∨ s = 431 ∨ s = 503 ∨ s = 504 ∨ s = 507 ∨ (s ≠ 200 ∧ s ≠ 201 ∧ s ≠ 400 ∧ s ≠ 404 ∧ s ≠ 405 ∧ s ≠ 409 ∧ s ≠ 410 ∧ s ≠ 413 ∧ s ≠ 431 ∧ s ≠ 503 ∧ s ≠ 504 ∧ s ≠ 507) := by omega
  rcases h with rfl | rfl | rfl | rfl | rfl | rfl | rfl | rfl | rfl | rfl | rfl | rfl | ⟨h1, h2, h3, h4, h5, h6, h7, h8, h9, h10, h11, h12⟩
  · go_enter Tryz.func25, Tryz.ntmps25
    go_wp2
    go_ret
    exact ⟨rfl, Below.refl _ _⟩
  · go_enter Tryz.func25, Tryz.ntmps25
    go_wp2
    go_ret
    exact ⟨rfl, Below.refl _ _⟩
  · go_enter Tryz.func25, Tryz.ntmps25
    go_wp2
    go_ret
    exact ⟨rfl, Below.refl _ _⟩
  · go_enter Tryz.func25, Tryz.ntmps25
    go_wp2
    go_ret
    exact ⟨rfl, Below.refl _ _⟩
  · go_enter Tryz.func25, Tryz.ntmps25
    go_wp2
    go_ret
    exact ⟨rfl, Below.refl _ _⟩
  · go_enter Tryz.func25, Tryz.ntmps25
    go_wp2
    go_ret
    exact ⟨rfl, Below.refl _ _⟩
  · go_enter Tryz.func25, Tryz.ntmps25
    go_wp2
    go_ret
    exact ⟨rfl, Below.refl _ _⟩
  · go_enter Tryz.func25, Tryz.ntmps25
    go_wp2
    go_ret
    exact ⟨rfl, Below.refl _ _⟩
  · go_enter Tryz.func25, Tryz.ntmps25
    go_wp2
    go_ret
    exact ⟨rfl, Below.refl _ _⟩
  · go_enter Tryz.func25, Tryz.ntmps25
    go_wp2
    go_ret
    exact ⟨rfl, Below.refl _ _⟩
  · go_enter Tryz.func25, Tryz.ntmps25
    go_wp2
    go_ret
    exact ⟨rfl, Below.refl _ _⟩
  · go_enter Tryz.func25, Tryz.ntmps25
    go_wp2
    go_ret
    exact ⟨rfl, Below.refl _ _⟩
  · have HW := Lib.hid (show M.wordsOf s = [85, 110, 107, 110, 111, 119, 110] by
      unfold M.wordsOf
      rw [if_neg h1, if_neg h2, if_neg h3, if_neg h4, if_neg h5, if_neg h6, if_neg h7, if_neg h8, if_neg h9, if_neg h10, if_neg h11, if_neg h12])
    obtain ⟨K, hK⟩ : ∃ K : Int, K = (s : Int) := ⟨_, rfl⟩
    rw [← hK]
    have k1 : ¬ K = 200 := by omega
    have k2 : ¬ K = 201 := by omega
    have k3 : ¬ K = 400 := by omega
    have k4 : ¬ K = 404 := by omega
    have k5 : ¬ K = 405 := by omega
    have k6 : ¬ K = 409 := by omega
    have k7 : ¬ K = 410 := by omega
    have k8 : ¬ K = 413 := by omega
    have k9 : ¬ K = 431 := by omega
    have k10 : ¬ K = 503 := by omega
    have k11 : ¬ K = 504 := by omega
    have k12 : ¬ K = 507 := by omega
    clear h1 h2 h3 h4 h5 h6 h7 h8 h9 h10 h11 h12 hK
    go_enter Tryz.func25, Tryz.ntmps25
    go_wp2
    go_ret
    refine ⟨?_, Below.refl _ _⟩
    rw [HW.out]
    rfl
theorem isState_any (z : Int) (w : World) : Calls Tryz.prog 11 #[.int .i64 z] w fun e w' => e = .returned (.bool (decide (100 ≤ z ∧ z ≤ 999))) ∧ w' = w := by
  by_cases h1 : 100 ≤ z
  · by_cases h2 : z ≤ 999
    · have hx : decide (100 ≤ z ∧ z ≤ 999) = true := by simp; omega
      rw [hx]
      clear hx
      go_enter Tryz.func11, Tryz.ntmps11
      go_wp2
      go_ret
      exact ⟨rfl, rfl⟩
    · have hx : decide (100 ≤ z ∧ z ≤ 999) = false := by simp; omega
      rw [hx]
      clear hx
      go_enter Tryz.func11, Tryz.ntmps11
      go_wp2
      go_ret
      exact ⟨rfl, rfl⟩
  · have hx : decide (100 ≤ z ∧ z ≤ 999) = false := by simp; omega
    rw [hx]
    clear hx
    go_enter Tryz.func11, Tryz.ntmps11
    go_wp2
    go_ret
    exact ⟨rfl, rfl⟩
theorem bl_cat (a b : ByteArray) : bl (a ++ b) = bl a ++ bl b := by
  unfold bl
  simp
theorem bl_inj {a b : ByteArray} (h : bl a = bl b) : a = b := by
  cases a with | mk a => cases b with | mk b => exact congrArg ByteArray.mk (Array.toList_inj.1 h)
theorem words_len (s : Nat) : (M.wordsOf s).length ≤ 31 := by
  have h : s = 200 ∨ s = 201 ∨ s = 400 ∨ s = 404 ∨ s = 405 ∨ s = 409 ∨ s = 410 ∨ s = 413 ∨ s = 431 ∨ s = 503 ∨ s = 504 ∨ s = 507 ∨ (s ≠ 200 ∧ s ≠ 201 ∧ s ≠ 400 ∧ s ≠ 404 ∧ s ≠ 405 ∧ s ≠ 409 ∧ s ≠ 410 ∧ s ≠ 413 ∧ s ≠ 431 ∧ s ≠ 503 ∧ s ≠ 504 ∧ s ≠ 507) := by omega
  rcases h with rfl | rfl | rfl | rfl | rfl | rfl | rfl | rfl | rfl | rfl | rfl | rfl | ⟨h1, h2, h3, h4, h5, h6, h7, h8, h9, h10, h11, h12⟩
  all_goals first
    | decide
    | (unfold M.wordsOf
       rw [if_neg h1, if_neg h2, if_neg h3, if_neg h4, if_neg h5, if_neg h6, if_neg h7, if_neg h8, if_neg h9, if_neg h10, if_neg h11, if_neg h12]
       decide)

set_option maxHeartbeats 2000000 in
theorem front_any (s : Nat) (hs : s < 1000) (w : World) (hV : Vars w) : Calls Tryz.prog 12 #[.int .i64 (s : Int)] w (SaysT (M.frontB s) w) := by
  have HIT := Lib.hid (fun W (hb : Below w.heap.size w W) => (Tryz.strconv_Itoa (s : Int) (by omega) (by omega) W (hV.below hb).pow))
  have HSW := Lib.hid (fun W => stateWords_any s W)
  rw [M.itoa_nat] at HIT
  unfold SaysT at HSW
  obtain ⟨R, hR⟩ : ∃ R : ByteArray, R = ⟨(Lib.decDigits s).toArray⟩ := ⟨_, rfl⟩
  obtain ⟨U, hU⟩ : ∃ U : ByteArray, U = ⟨(M.wordsOf s).toArray⟩ := ⟨_, rfl⟩
  have hRs : R.size ≤ 3 := by
    have h1 : R.size = (Lib.decDigits s).length := by rw [hR]; rfl
    have := M.dec_len (n := s) (k := 3) (by omega) (by omega); omega
  have hUs : U.size ≤ 31 := by
    have h1 : U.size = (M.wordsOf s).length := by rw [hU]; rfl
    have := words_len s; omega
  have HFB := Lib.hid (show bl U = M.wordsOf s ∧ bl R = Lib.decDigits s by rw [hU, hR]; exact ⟨rfl, rfl⟩)
  rw [← hR] at HIT
  rw [← hU] at HSW
  clear hV hR hU
  have hs1 : ¬ 9223372036854775807 < 9 + R.size := by omega
  have hs2 : ¬ 9223372036854775807 < 9 + R.size + 1 := by omega
  have hs3 : ¬ 9223372036854775807 < 9 + R.size + 1 + U.size := by omega
  have hs4 : ¬ 9223372036854775807 < 9 + R.size + 1 + U.size + 2 := by omega
  have hs5 : ¬ 9223372036854775807 < 9 + R.size + 1 + U.size + 2 + 30 := by omega
  have hs6 : ¬ 9223372036854775807 < 9 + R.size + 1 + U.size + 2 + 30 + 2 := by omega
  have hs7 : ¬ 9223372036854775807 < 9 + R.size + 1 + U.size + 2 + 30 + 2 + 16 := by omega
  go_enter Tryz.func12, Tryz.ntmps12
  go_wp2_with fail
  refine (HIT.out w (Below.refl _ _)).mono ?_
  rintro e w1 ⟨rfl, k, os, hw⟩
  have HB1 := Lib.hid (show Below w.heap.size w w1 by rw [hw]; exact below_grow w k os)
  clear hw
  go_wp2_with fail
  refine (HSW.out w1).mono ?_
  rintro e w2 ⟨rfl, hb⟩
  have HB2 := Lib.hid (HB1.out.trans (hb.mono HB1.out.size))
  clear hb
  go_wp2
  go_ret
  refine ⟨?_, HB2.out⟩
  refine congrArg (fun b => Ending.returned (.string b)) (bl_inj ?_)
  obtain ⟨e1, e2⟩ := HFB.out
  simp only [bl_cat, e1, e2]
  unfold M.frontB M.v9 M.ctL
  simp [bl]
/-- the status that an answer names in its first line: 0, if it names none -/
def stateN (l : List UInt8) : Nat := if Lib.hasPrefix l M.v9 = true then (if (l.drop 9).length < 3 then 0 else match M.num ((l.drop 9).take 3) with | some n => n | none => 0) else 0
theorem cp_any (s p : ByteArray) (w : World) : Calls Tryz.prog 17 #[.string s, .string p] w fun e w' => e = .returned (.tuple #[.string ⟨(if Lib.hasPrefix (bl s) (bl p) = true then (bl s).drop (bl p).length else bl s).toArray⟩, .bool (Lib.hasPrefix (bl s) (bl p))]) ∧ w' = w := Tryz.strings_CutPrefix s p w
theorem bl_v9 : bl ⟨#[72, 84, 84, 80, 47, 49, 46, 49, 32]⟩ = M.v9 := rfl

set_option maxHeartbeats 2000000 in
theorem answerState_any (s : ByteArray) (w : World) (hs : s.size ≤ 100000) (hV : Vars w) : Calls Tryz.prog 16 #[.string s] w fun e w' => e = .returned (.int .i64 (stateN (bl s) : Int)) ∧ Below w.heap.size w w' := by
  have hcp := cp_any s ⟨#[72, 84, 84, 80, 47, 49, 46, 49, 32]⟩ w
  rw [bl_v9] at hcp
  have hsz : (bl s).length = s.size := bl_len s
  have hst : stateN (bl s) = if Lib.hasPrefix (bl s) M.v9 = true then (if ((bl s).drop 9).length < 3 then 0 else match M.num (((bl s).drop 9).take 3) with | some n => n | none => 0) else 0 := rfl
  generalize stateN (bl s) = N at *
  have hl9 : M.v9.length = 9 := rfl
  rw [hl9] at hcp
  have hdl : ((bl s).drop 9).length ≤ 100000 := by simp; omega
  generalize (bl s).drop 9 = T at *
  generalize bl s = L at *
  have HV := Lib.hid hV
  clear hV hsz hl9
  cases hp : Lib.hasPrefix L M.v9 with
  | false =>
    rw [hp] at hcp hst
    have HN := Lib.hid hst
    have HCP := Lib.hid hcp
    clear hcp hst
    simp only [Bool.false_eq_true, if_false] at HCP HN
    go_enter Tryz.func16, Tryz.ntmps16
    go_wp2_with fail
    refine HCP.out.mono ?_
    rintro e w1 ⟨rfl, rfl⟩
    go_wp2
    go_ret
    exact ⟨by rw [HN.out]; rfl, Below.refl _ _⟩
  | true =>
    rw [hp] at hcp hst
    obtain ⟨B, hB⟩ : ∃ B : ByteArray, B = ⟨T.toArray⟩ := ⟨_, rfl⟩
    have hBT : bl B = T := by rw [hB]
    have hBs : B.size = T.length := by rw [← hBT]; exact (bl_len B).symm
    rw [if_pos rfl] at hcp hst
    rw [← hB] at hcp
    have HCP := Lib.hid hcp
    clear hcp hB
    by_cases h3 : T.length < 3
    · rw [if_pos h3] at hst
      have HN := Lib.hid hst
      have hq : B.size < 3 := by omega
      clear hst hBT hBs h3 hdl hs
      go_enter Tryz.func16, Tryz.ntmps16
      go_wp2_with fail
      refine HCP.out.mono ?_
      rintro e w1 ⟨rfl, rfl⟩
      go_wp2
      go_ret
      exact ⟨by rw [HN.out]; rfl, Below.refl _ _⟩
    · rw [if_neg h3] at hst
      have hq : ¬ B.size < 3 := by omega
      have hq3 : 3 ≤ B.size := by omega
      have HNU := Lib.hid (number_any (B.extract 0 3) w (by simp; omega) HV.out)
      rw [bl_cut, hBT, List.drop_zero] at HNU
      have HN := Lib.hid hst
      have HBT := Lib.hid hBT
      clear hst hBT hBs h3 hdl hs
      go_enter Tryz.func16, Tryz.ntmps16
      cases hm : M.num (T.take 3) with
      | none =>
        have HX := Lib.hid (numT_none hm)
        have HN2 : Hid (N = 0) := Lib.hid (by rw [HN.out, hm])
        rw [HX.out] at HNU
        clear hm
        go_wp2_with fail
        refine HCP.out.mono ?_
        rintro e w1 ⟨rfl, rfl⟩
        go_wp2_with fail
        refine HNU.out.mono ?_
        rintro e w1 ⟨rfl, hb⟩
        go_wp2
        go_ret
        exact ⟨by rw [HN2.out]; rfl, hb⟩
      | some n =>
        have HX := Lib.hid (numT_some hm)
        have HN2 : Hid (N = n) := Lib.hid (by rw [HN.out, hm])
        rw [HX.out] at HNU
        clear hm
        go_wp2_with fail
        refine HCP.out.mono ?_
        rintro e w1 ⟨rfl, rfl⟩
        go_wp2_with fail
        refine HNU.out.mono ?_
        rintro e w1 ⟨rfl, hb⟩
        go_wp2
        go_ret
        exact ⟨by rw [HN2.out]; rfl, hb⟩
end Go.Proofs.YtdbinhbmhkbfeaaGreatDoor
