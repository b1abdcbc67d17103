/-
  Answer, by contract: its three results as a list's worth.
-/
import Derived.Test.YtdbinhbmhkbfeaaGreatDoorHttpAn
namespace Go.Proofs.YtdbinhbmhkbfeaaGreatDoor
open Go.RowKit Mem Go.Sort
set_option linter.unusedVariables false
set_option maxRecDepth 100000

def progAns (l : List UInt8) : Option (Nat × List UInt8 × Nat) :=
  if Lib.hasPrefix l (M.frontB (stateN l)) = true then
    (if 100 ≤ stateN l ∧ stateN l ≤ 999 then
      (match M.ansP (l.drop (M.frontB (stateN l)).length) with | some r => some (stateN l, r.2.take r.1, l.length - r.2.length + r.1) | none => none)
    else none)
  else none
def ansV : Option (Nat × List UInt8 × Nat) → Value
  | some r => .tuple #[.int .i64 (r.1 : Int), .string ⟨r.2.1.toArray⟩, .int .i64 (r.2.2 : Int)]
  | none => .tuple #[.int .i64 0, .string ⟨#[]⟩, .int .i64 0]
theorem stateN_lt (l : List UInt8) : stateN l < 1000 := by
  unfold stateN
  split
  · split
    · omega
    · cases hm : M.num ((l.drop 9).take 3) with
      | none => simp
      | some n =>
        have hd := M.num_some hm
        have hl : (Lib.decDigits n).length ≤ 3 := by rw [← hd]; simp; omega
        show n < 1000
        by_cases hn : n < 1000
        · exact hn
        · exfalso
          rw [Lib.decDigits_length, Lib.nDigits_big (by omega), Lib.nDigits_big (by omega), Lib.nDigits_big (by omega)] at hl
          have : 1 ≤ Lib.nDigits (n / 10 / 10 / 10) := by
            by_cases hm : n / 10 / 10 / 10 < 10
            · rw [Lib.nDigits_small hm]; exact Nat.le_refl 1
            · rw [Lib.nDigits_big hm]; omega
          omega
  · omega
theorem pre_iff (p l : List UInt8) : p <+: l ↔ Lib.hasPrefix l p = true := by
  unfold Lib.hasPrefix
  exact List.isPrefixOf_iff_prefix.symm
theorem bl_crlf : bl ⟨#[13, 10]⟩ = [13, 10] := rfl
theorem bl_close : bl ⟨#[67, 111, 110, 110, 101, 99, 116, 105, 111, 110, 58, 32, 99, 108, 111, 115, 101, 13, 10]⟩ = M.closeB := rfl
theorem cut2_any (s : ByteArray) (w : World) (hs : s.size ≤ 100000) (hV : Vars w) : Calls Tryz.prog 18 #[.string s, .string ⟨#[13, 10]⟩] w fun e w' => e = .returned (.tuple #[.string ⟨(Lib.cut (bl s) [13, 10]).1.toArray⟩, .string ⟨(Lib.cut (bl s) [13, 10]).2.1.toArray⟩, .bool (Lib.cut (bl s) [13, 10]).2.2]) ∧ Below w.heap.size w w' := by
  obtain ⟨mx, hm⟩ := hV.max
  exact (Tryz.strings_Cut s ⟨#[13, 10]⟩ mx w (by omega) hm).mono fun e w' ⟨he, n, hw⟩ => ⟨he, by rw [hw]; exact bel_drewN (Below.refl _ _) n⟩
theorem tp_any (s : ByteArray) (w : World) : Calls Tryz.prog 20 #[.string s, .string ⟨#[67, 111, 110, 110, 101, 99, 116, 105, 111, 110, 58, 32, 99, 108, 111, 115, 101, 13, 10]⟩] w fun e w' => e = .returned (.string ⟨(if M.closeB <+: bl s then (bl s).drop 19 else bl s).toArray⟩) ∧ w' = w := by
  have h := Tryz.strings_TrimPrefix s ⟨#[67, 111, 110, 110, 101, 99, 116, 105, 111, 110, 58, 32, 99, 108, 111, 115, 101, 13, 10]⟩ w
  have e : Lib.trimPrefix s.data.toList (ByteArray.data ⟨#[67, 111, 110, 110, 101, 99, 116, 105, 111, 110, 58, 32, 99, 108, 111, 115, 101, 13, 10]⟩).toList = (if M.closeB <+: bl s then (bl s).drop 19 else bl s) := by
    show Lib.trimPrefix (bl s) M.closeB = _
    unfold Lib.trimPrefix
    by_cases hc : M.closeB <+: bl s
    · rw [if_pos hc, if_pos ((pre_iff _ _).1 hc)]
      rfl
    · rw [if_neg hc, if_neg (fun h => hc ((pre_iff _ _).2 h))]
  rw [e] at h
  exact h
theorem cut_len (l : List UInt8) : (Lib.cut l [13, 10]).1.length ≤ l.length ∧ (Lib.cut l [13, 10]).2.1.length ≤ l.length := by
  unfold Lib.cut
  split <;> simp <;> omega

set_option maxHeartbeats 8000000 in
theorem Answer_any (s : ByteArray) (w : World) (hs : s.size ≤ 100000) (hV : Vars w) : Calls Tryz.prog 8 #[.string s] w fun e w' => e = .returned (ansV (progAns (bl s))) ∧ Below w.heap.size w w' := by
  have hVB : ∀ W, Below w.heap.size w W → Vars W := fun W hb => hV.below hb
  have HAS := Lib.hid (answerState_any s w hs hV)
  have hN := stateN_lt (bl s)
  have hpa : progAns (bl s) = if Lib.hasPrefix (bl s) (M.frontB (stateN (bl s))) = true then (if 100 ≤ stateN (bl s) ∧ stateN (bl s) ≤ 999 then (match M.ansP ((bl s).drop (M.frontB (stateN (bl s))).length) with | some r => some (stateN (bl s), r.2.take r.1, (bl s).length - r.2.length + r.1) | none => none) else none) else none := rfl
  generalize progAns (bl s) = PA at *
  have HF := Lib.hid (fun W (hb : Below w.heap.size w W) => front_any (stateN (bl s)) hN W (hVB W hb))
  have HIS := Lib.hid (fun W => isState_any (stateN (bl s) : Int) W)
  have hcp := fun W => cp_any s ⟨(M.frontB (stateN (bl s))).toArray⟩ W
  generalize stateN (bl s) = N at *
  simp only [bl_mk (M.frontB N)] at hcp
  have hsz : (bl s).length = s.size := bl_len s
  unfold SaysT at HF
  generalize M.frontB N = FB at *
  obtain ⟨F, hF⟩ : ∃ F : ByteArray, F = ⟨FB.toArray⟩ := ⟨_, rfl⟩
  rw [← hF] at HF hcp
  clear hF
  have hTL : ((bl s).drop FB.length).length ≤ s.size := by rw [List.length_drop, hsz]; omega
  have hdl : ((bl s).drop FB.length).length ≤ 100000 := by omega
  generalize (bl s).drop FB.length = T at *
  rw [hsz] at hpa
  generalize bl s = L at *
  cases hp : Lib.hasPrefix L FB with
  | false =>
    rw [hp] at hcp hpa
    simp only [Bool.false_eq_true, if_false] at hcp hpa
    have HCP := Lib.hid hcp
    have HPA := Lib.hid hpa
    clear hcp hpa hV hVB
    generalize decide (100 ≤ (N : Int) ∧ (N : Int) ≤ 999) = q at *
    go_enter Tryz.func8, Tryz.ntmps8
    go_wp2_with fail
    refine HAS.out.mono ?_
    rintro e w1 ⟨rfl, hb⟩
    have HB1 := Lib.hid hb
    clear hb
    go_wp2_with fail
    refine (HF.out w1 HB1.out).mono ?_
    rintro e w2 ⟨rfl, hb⟩
    have HB2 := Lib.hid (HB1.out.trans (hb.mono HB1.out.size))
    clear hb
    go_wp2_with fail
    refine (HCP.out w2).mono ?_
    rintro e w3 ⟨rfl, rfl⟩
    go_wp2_with fail
    refine (HIS.out w3).mono ?_
    rintro e w4 ⟨rfl, rfl⟩
    go_wp2
    all_goals
      go_ret3
      exact ⟨by rw [HPA.out]; rfl, HB2.out⟩
  | true =>
    rw [hp] at hcp hpa
    rw [if_pos rfl] at hpa
    simp only [if_true] at hcp
    obtain ⟨B, hB⟩ : ∃ B : ByteArray, B = ⟨T.toArray⟩ := ⟨_, rfl⟩
    have hBT : bl B = T := by rw [hB]
    have hBs : B.size = T.length := by rw [← hBT]; exact (bl_len B).symm
    rw [← hB] at hcp
    have HCP := Lib.hid hcp
    clear hcp hB
    by_cases hr : 100 ≤ N ∧ N ≤ 999
    · rw [if_pos hr] at hpa
      have hrd : decide (100 ≤ (N : Int) ∧ (N : Int) ≤ 999) = true := by simp; omega
      rw [hrd] at HIS
      have HCUT := Lib.hid (fun W (hb : Below w.heap.size w W) => cut2_any B W (by omega) (hVB W hb))
      rw [hBT] at HCUT
      have hcl := cut_len T
      have hAP : M.ansP T = match M.num (Lib.cut T [13, 10]).1 with
        | none => none
        | some n => if [13, 10] <+: (if M.closeB <+: (Lib.cut T [13, 10]).2.1 then (Lib.cut T [13, 10]).2.1.drop 19 else (Lib.cut T [13, 10]).2.1) ∧ n ≤ ((if M.closeB <+: (Lib.cut T [13, 10]).2.1 then (Lib.cut T [13, 10]).2.1.drop 19 else (Lib.cut T [13, 10]).2.1).drop 2).length then some (n, (if M.closeB <+: (Lib.cut T [13, 10]).2.1 then (Lib.cut T [13, 10]).2.1.drop 19 else (Lib.cut T [13, 10]).2.1).drop 2) else none := rfl
      generalize M.ansP T = AP at *
      generalize (Lib.cut T [13, 10]).1 = c1 at *
      generalize (Lib.cut T [13, 10]).2.1 = c2 at *
      generalize (Lib.cut T [13, 10]).2.2 = fnd at *
      obtain ⟨C1, hC1⟩ : ∃ C : ByteArray, C = ⟨c1.toArray⟩ := ⟨_, rfl⟩
      obtain ⟨C2, hC2⟩ : ∃ C : ByteArray, C = ⟨c2.toArray⟩ := ⟨_, rfl⟩
      have hC1b : bl C1 = c1 := by rw [hC1]
      have hC2b : bl C2 = c2 := by rw [hC2]
      have hC1s : C1.size ≤ 100000 := by rw [← bl_len, hC1b]; omega
      rw [← hC1, ← hC2] at HCUT
      clear hC1 hC2
      have HNU := Lib.hid (fun W (hb : Below w.heap.size w W) => number_any C1 W (by omega) (hVB W hb))
      rw [hC1b] at HNU
      have htp := fun W => tp_any C2 W
      rw [hC2b] at htp
      have hd2 : (if M.closeB <+: c2 then c2.drop 19 else c2).length ≤ c2.length := by split <;> simp
      generalize (if M.closeB <+: c2 then c2.drop 19 else c2) = d2 at *
      obtain ⟨D, hD⟩ : ∃ C : ByteArray, C = ⟨d2.toArray⟩ := ⟨_, rfl⟩
      have hDb : bl D = d2 := by rw [hD]
      rw [← hD] at htp
      have HTP := Lib.hid htp
      have hcq := fun W => cp_any D ⟨#[13, 10]⟩ W
      rw [bl_crlf, hDb] at hcq
      have h2 : ([13, 10] : List UInt8).length = 2 := rfl
      rw [h2] at hcq
      simp only [pre_iff [13, 10]] at hAP
      cases hm : M.num c1 with
      | none =>
        rw [hm] at hAP
        have HX := Lib.hid (numT_none hm)
        rw [HX.out] at HNU
        rw [hAP] at hpa
        have HPA := Lib.hid hpa
        clear hV hVB hcl hAP hC1b hC2b hC1s htp hd2 hD hDb hcq h2 hpa hm
        go_enter Tryz.func8, Tryz.ntmps8
        go_wp2_with fail
        refine HAS.out.mono ?_
        rintro e w1 ⟨rfl, hb⟩
        have HB1 := Lib.hid hb
        clear hb
        go_wp2_with fail
        refine (HF.out w1 HB1.out).mono ?_
        rintro e w2 ⟨rfl, hb⟩
        have HB2 := Lib.hid (HB1.out.trans (hb.mono HB1.out.size))
        clear hb
        go_wp2_with fail
        refine (HCP.out w2).mono ?_
        rintro e w3 ⟨rfl, rfl⟩
        go_wp2_with fail
        refine (HIS.out w3).mono ?_
        rintro e w4 ⟨rfl, rfl⟩
        go_wp2_with fail
        refine (HCUT.out w4 HB2.out).mono ?_
        rintro e w5 ⟨rfl, hb⟩
        have HB5 := Lib.hid (HB2.out.trans (hb.mono HB2.out.size))
        clear hb
        go_wp2_with fail
        refine (HNU.out w5 HB5.out).mono ?_
        rintro e w6 ⟨rfl, hb⟩
        have HB6 := Lib.hid (HB5.out.trans (hb.mono HB5.out.size))
        clear hb
        go_wp2
        go_ret3
        exact ⟨by rw [HPA.out]; rfl, HB6.out⟩
      | some m =>
        rw [hm] at hAP
        have HX := Lib.hid (numT_some hm)
        rw [HX.out] at HNU
        cases hq : Lib.hasPrefix d2 [13, 10] with
        | false =>
          rw [hq] at hAP hcq
          simp only [Bool.false_eq_true, false_and, if_false] at hAP hcq
          have HCQ := Lib.hid hcq
          rw [hAP] at hpa
          have HPA := Lib.hid hpa
          clear hV hVB hcl hAP hC1b hC2b hC1s htp hd2 hD hDb hcq h2 hpa hm
          go_enter Tryz.func8, Tryz.ntmps8
          go_wp2_with fail
          refine HAS.out.mono ?_
          rintro e w1 ⟨rfl, hb⟩
          have HB1 := Lib.hid hb
          clear hb
          go_wp2_with fail
          refine (HF.out w1 HB1.out).mono ?_
          rintro e w2 ⟨rfl, hb⟩
          have HB2 := Lib.hid (HB1.out.trans (hb.mono HB1.out.size))
          clear hb
          go_wp2_with fail
          refine (HCP.out w2).mono ?_
          rintro e w3 ⟨rfl, rfl⟩
          go_wp2_with fail
          refine (HIS.out w3).mono ?_
          rintro e w4 ⟨rfl, rfl⟩
          go_wp2_with fail
          refine (HCUT.out w4 HB2.out).mono ?_
          rintro e w5 ⟨rfl, hb⟩
          have HB5 := Lib.hid (HB2.out.trans (hb.mono HB2.out.size))
          clear hb
          go_wp2_with fail
          refine (HNU.out w5 HB5.out).mono ?_
          rintro e w6 ⟨rfl, hb⟩
          have HB6 := Lib.hid (HB5.out.trans (hb.mono HB5.out.size))
          clear hb
          go_wp2_with fail
          refine (HTP.out w6).mono ?_
          rintro e w7 ⟨rfl, rfl⟩
          go_wp2_with fail
          refine (HCQ.out w7).mono ?_
          rintro e w8 ⟨rfl, rfl⟩
          go_wp2
          go_ret3
          exact ⟨by rw [HPA.out]; rfl, HB6.out⟩
        | true =>
          rw [hq] at hAP hcq
          simp only [true_and, if_true] at hAP hcq
          have he3 : (d2.drop 2).length ≤ s.size := by rw [List.length_drop]; omega
          have he2 : (d2.drop 2).length ≤ 100000 := by omega
          generalize d2.drop 2 = e2 at *
          obtain ⟨E, hE⟩ : ∃ C : ByteArray, C = ⟨e2.toArray⟩ := ⟨_, rfl⟩
          have hEb : bl E = e2 := by rw [hE]
          have hEs : E.size = e2.length := by rw [← hEb]; exact (bl_len E).symm
          rw [← hE] at hcq
          have HCQ := Lib.hid hcq
          by_cases hle : m ≤ e2.length
          · rw [if_pos hle] at hAP
            rw [hAP] at hpa
            simp only at hpa
            have HPA := Lib.hid hpa
            have hlt : ¬ (E.size : Int) < (m : Int) := by omega
            have hmE : m ≤ E.size := by omega
            have hE1 : E.size ≤ 100000 := by omega
            have HCL := Lib.hid (fun W => clone_any (E.extract 0 m) W (by simp; omega))
            have HXB := Lib.hid (show bl (E.extract 0 m) = e2.take m by rw [bl_cut, hEb]; rfl)
            have HES := Lib.hid hEs
            have hES3 : E.size ≤ s.size := by omega
            clear hV hVB hcl hAP hC1b hC2b hC1s htp hd2 hD hDb hcq h2 hpa hm hE hEb hle hEs he2
            go_enter Tryz.func8, Tryz.ntmps8
            go_wp2_with fail
            refine HAS.out.mono ?_
            rintro e w1 ⟨rfl, hb⟩
            have HB1 := Lib.hid hb
            clear hb
            go_wp2_with fail
            refine (HF.out w1 HB1.out).mono ?_
            rintro e w2 ⟨rfl, hb⟩
            have HB2 := Lib.hid (HB1.out.trans (hb.mono HB1.out.size))
            clear hb
            go_wp2_with fail
            refine (HCP.out w2).mono ?_
            rintro e w3 ⟨rfl, rfl⟩
            go_wp2_with fail
            refine (HIS.out w3).mono ?_
            rintro e w4 ⟨rfl, rfl⟩
            go_wp2_with fail
            refine (HCUT.out w4 HB2.out).mono ?_
            rintro e w5 ⟨rfl, hb⟩
            have HB5 := Lib.hid (HB2.out.trans (hb.mono HB2.out.size))
            clear hb
            go_wp2_with fail
            refine (HNU.out w5 HB5.out).mono ?_
            rintro e w6 ⟨rfl, hb⟩
            have HB6 := Lib.hid (HB5.out.trans (hb.mono HB5.out.size))
            clear hb
            go_wp2_with fail
            refine (HTP.out w6).mono ?_
            rintro e w7 ⟨rfl, rfl⟩
            go_wp2_with fail
            refine (HCQ.out w7).mono ?_
            rintro e w8 ⟨rfl, rfl⟩
            go_wp2_with fail
            refine (HCL.out _).mono ?_
            rintro e w9 ⟨rfl, hb⟩
            have HB9 := Lib.hid (HB6.out.trans (hb.mono HB6.out.size))
            clear hb
            go_wp2
            go_ret3
            refine ⟨?_, HB9.out⟩
            rw [HPA.out]
            have e1 : E.extract 0 m = ⟨(e2.take m).toArray⟩ := bl_inj (by rw [HXB.out, bl_mk])
            have e3 : (s.size : Int) - (E.size : Int) + (m : Int) = ((s.size - e2.length + m : Nat) : Int) := by rw [← HES.out]; omega
            show Ending.returned (.tuple #[.int .i64 (N : Int), .string (E.extract 0 m), .int .i64 ((s.size : Int) - (E.size : Int) + (m : Int))]) = .returned (.tuple #[.int .i64 (N : Int), .string ⟨(e2.take m).toArray⟩, .int .i64 ((s.size - e2.length + m : Nat) : Int)])
            rw [e1, e3]
          · rw [if_neg hle] at hAP
            rw [hAP] at hpa
            have HPA := Lib.hid hpa
            have hlt : (E.size : Int) < (m : Int) := by omega
            clear hV hVB hcl hAP hC1b hC2b hC1s htp hd2 hD hDb hcq h2 hpa hm hE hEb hle hEs he2
            go_enter Tryz.func8, Tryz.ntmps8
            go_wp2_with fail
            refine HAS.out.mono ?_
            rintro e w1 ⟨rfl, hb⟩
            have HB1 := Lib.hid hb
            clear hb
            go_wp2_with fail
            refine (HF.out w1 HB1.out).mono ?_
            rintro e w2 ⟨rfl, hb⟩
            have HB2 := Lib.hid (HB1.out.trans (hb.mono HB1.out.size))
            clear hb
            go_wp2_with fail
            refine (HCP.out w2).mono ?_
            rintro e w3 ⟨rfl, rfl⟩
            go_wp2_with fail
            refine (HIS.out w3).mono ?_
            rintro e w4 ⟨rfl, rfl⟩
            go_wp2_with fail
            refine (HCUT.out w4 HB2.out).mono ?_
            rintro e w5 ⟨rfl, hb⟩
            have HB5 := Lib.hid (HB2.out.trans (hb.mono HB2.out.size))
            clear hb
            go_wp2_with fail
            refine (HNU.out w5 HB5.out).mono ?_
            rintro e w6 ⟨rfl, hb⟩
            have HB6 := Lib.hid (HB5.out.trans (hb.mono HB5.out.size))
            clear hb
            go_wp2_with fail
            refine (HTP.out w6).mono ?_
            rintro e w7 ⟨rfl, rfl⟩
            go_wp2_with fail
            refine (HCQ.out w7).mono ?_
            rintro e w8 ⟨rfl, rfl⟩
            go_wp2
            go_ret3
            exact ⟨by rw [HPA.out]; rfl, HB6.out⟩
    · rw [if_neg hr] at hpa
      have hrd : decide (100 ≤ (N : Int) ∧ (N : Int) ≤ 999) = false := by simp; omega
      rw [hrd] at HIS
      have HPA := Lib.hid hpa
      clear hV hVB hpa hr hrd
      go_enter Tryz.func8, Tryz.ntmps8
      go_wp2_with fail
      refine HAS.out.mono ?_
      rintro e w1 ⟨rfl, hb⟩
      have HB1 := Lib.hid hb
      clear hb
      go_wp2_with fail
      refine (HF.out w1 HB1.out).mono ?_
      rintro e w2 ⟨rfl, hb⟩
      have HB2 := Lib.hid (HB1.out.trans (hb.mono HB1.out.size))
      clear hb
      go_wp2_with fail
      refine (HCP.out w2).mono ?_
      rintro e w3 ⟨rfl, rfl⟩
      go_wp2_with fail
      refine (HIS.out w3).mono ?_
      rintro e w4 ⟨rfl, rfl⟩
      go_wp2
      go_ret3
      exact ⟨by rw [HPA.out]; rfl, HB2.out⟩
end Go.Proofs.YtdbinhbmhkbfeaaGreatDoor
