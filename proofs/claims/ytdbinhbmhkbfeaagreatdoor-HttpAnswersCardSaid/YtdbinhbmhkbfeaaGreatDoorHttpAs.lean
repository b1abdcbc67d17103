/-
  The two Answers are one; HttpAnswers, by contracts.
-/
import Derived.Test.YtdbinhbmhkbfeaaGreatDoorHttpAr
import Derived.Test.YtdbinhbmhkbfeaaGreatDoorHttpN
namespace Go.Proofs.YtdbinhbmhkbfeaaGreatDoor
open Go.RowKit Mem Go.Sort
set_option linter.unusedVariables false
set_option maxRecDepth 100000

theorem ans_eq {l : List UInt8} (hl : l.length ≤ 100000) : progAns l = refAns l := by
  unfold refAns
  by_cases hv : l.take 9 = M.v9
  · have hp : Lib.hasPrefix l M.v9 = true := (pre_iff _ _).1 (pre_take hv)
    by_cases h13 : l.length < 13
    · rw [if_pos (.inl h13)]
      unfold progAns
      by_cases hf : Lib.hasPrefix l (M.frontB (stateN l)) = true
      · exfalso
        have h1 := ((pre_iff _ _).2 hf).length_le
        have h2 : 50 ≤ (M.frontB (stateN l)).length := by unfold M.frontB M.ctL; simp; omega
        omega
      · rw [if_neg hf]
    · rw [if_neg (by rintro (h | h); exact h13 h; exact h hv)]
      have hle : M.len9 ((l.drop 9).take 3) = M.num ((l.drop 9).take 3) := by unfold M.len9; rw [if_pos (by simp; omega)]
      have hst : stateN l = match M.num ((l.drop 9).take 3) with | some n => n | none => 0 := by unfold stateN; rw [if_pos hp, if_neg (by simp; omega)]; rfl
      have hlt := stateN_lt l
      unfold progAns
      rw [hle]
      cases hm : M.num ((l.drop 9).take 3) with
      | none =>
        rw [hm] at hst
        simp only at hst ⊢
        rw [hst]
        split
        · rw [if_neg (by omega)]
        · rfl
      | some n =>
        rw [hm] at hst
        simp only at hst ⊢
        rw [hst] at hlt ⊢
        by_cases h100 : n < 100
        · rw [if_pos h100]
          split
          · rw [if_neg (by omega)]
          · rfl
        · rw [if_neg h100]
          by_cases hf : Lib.hasPrefix l (M.frontB n) = true
          · rw [if_pos hf, if_pos ⟨by omega, by omega⟩]
            have hpf := (pre_iff _ _).2 hf
            unfold bothAns
            rw [oneAns_yes hpf, oneAns_yes hpf, M.ans_same _ (by simp; omega)]
            cases M.ansR false (l.drop (M.frontB n).length) with
            | some r => rfl
            | none => cases M.ansR true (l.drop (M.frontB n).length) <;> rfl
          · rw [if_neg hf, bothAns_no (oneAns_no (fun h => hf ((pre_iff _ _).1 h)) _) (oneAns_no (fun h => hf ((pre_iff _ _).1 h)) _)]
  · rw [if_pos (.inr hv)]
    unfold progAns
    have hst : stateN l = 0 := by unfold stateN; rw [if_neg (fun h => hv (by obtain ⟨u, hu⟩ := (pre_iff _ _).2 h; rw [← hu]; rfl))]
    rw [hst]
    split
    · rw [if_neg (by omega)]
    · rfl

set_option maxHeartbeats 2000000 in
theorem httpAnswers_any (s : ByteArray) (w : World) (hV : Vars w) : Calls Tryz.prog 4 #[.string s] w fun e w' => e = .returned (.bool true) ∧ Below w.heap.size w w' := by
  have HA := Lib.hid (fun w1 (hb : Below w.heap.size w w1) => awake_any w1 (hV.below hb))
  by_cases hs : s.size ≤ 100000
  · have HP := Lib.hid (fun w1 (hb : Below w.heap.size w w1) => Answer_any s w1 hs (hV.below hb))
    have HR := Lib.hid (fun w1 => RefAnswer_any s w1 hs)
    rw [← ans_eq (l := bl s) (by rw [bl_len]; exact hs)] at HR
    generalize progAns (bl s) = PA at *
    clear hV
    cases PA with
    | none =>
      simp only [ansV] at HP HR
      go_enter Tryz.func4, Tryz.ntmps4
      go_wp2_with fail
      refine (HA.out w (Below.refl _ _)).mono ?_
      rintro e w1 ⟨rfl, hb⟩
      have HB1 := Lib.hid hb
      clear hb
      go_wp2_with fail
      refine (HP.out w1 HB1.out).mono ?_
      rintro e w2 ⟨rfl, hb⟩
      have HB2 := Lib.hid (HB1.out.trans (hb.mono HB1.out.size))
      clear hb
      go_wp2_with fail
      refine (HR.out w2).mono ?_
      rintro e w3 ⟨rfl, hb⟩
      have HB3 := Lib.hid (HB2.out.trans (hb.mono HB2.out.size))
      clear hb
      go_wp2
      go_ret
      exact ⟨by simp, HB3.out⟩
    | some r =>
      obtain ⟨n, b, k⟩ := r
      simp only [ansV] at HP HR
      go_enter Tryz.func4, Tryz.ntmps4
      go_wp2_with fail
      refine (HA.out w (Below.refl _ _)).mono ?_
      rintro e w1 ⟨rfl, hb⟩
      have HB1 := Lib.hid hb
      clear hb
      go_wp2_with fail
      refine (HP.out w1 HB1.out).mono ?_
      rintro e w2 ⟨rfl, hb⟩
      have HB2 := Lib.hid (HB1.out.trans (hb.mono HB1.out.size))
      clear hb
      go_wp2_with fail
      refine (HR.out w2).mono ?_
      rintro e w3 ⟨rfl, hb⟩
      have HB3 := Lib.hid (HB2.out.trans (hb.mono HB2.out.size))
      clear hb
      go_wp2
      go_ret
      exact ⟨by simp, HB3.out⟩
  · have hs2 : ¬ (s.size : Int) ≤ 100000 := by omega
    have hs3 : 100000 < s.size := by omega
    clear hV
    go_enter Tryz.func4, Tryz.ntmps4
    go_wp2_with fail
    refine (HA.out w (Below.refl _ _)).mono ?_
    rintro e w1 ⟨rfl, hb⟩
    have HB1 := Lib.hid hb
    clear hb
    go_wp2_with fail
    refine (HA.out w1 HB1.out).mono ?_
    rintro e w2 ⟨rfl, hb⟩
    have HB2 := Lib.hid (HB1.out.trans (hb.mono HB1.out.size))
    clear hb
    go_wp2
    go_ret
    exact ⟨rfl, HB2.out⟩
end Go.Proofs.YtdbinhbmhkbfeaaGreatDoor
