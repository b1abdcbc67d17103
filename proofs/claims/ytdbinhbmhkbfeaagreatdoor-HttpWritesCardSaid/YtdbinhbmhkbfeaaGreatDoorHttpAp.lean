/-
  Answer at bytes that begin with an answer, however long.
-/
import Derived.Test.YtdbinhbmhkbfeaaGreatDoorHttpCe
import Derived.BigQuiet
namespace Go.Proofs.YtdbinhbmhkbfeaaGreatDoor
open Go.RowKit Mem Go.Sort
set_option linter.unusedVariables false
set_option maxRecDepth 100000

theorem cut28 (s Z : ByteArray) (i : Nat) (w : World) (hZ : Z.size = 2) (hi : i + 2 ≤ s.size) (hz : s.size ≤ 9223372036854775800) (h : Calls Tryz.prog 38 #[.string s, .string Z] w fun e w' => e = .returned (.int .i64 (i : Int)) ∧ w' = w) : Calls Tryz.prog 28 #[.string s, .string Z] w fun e w' => e = .returned (.tuple #[.string (s.extract 0 i), .string (s.extract (i + 2) s.size), .bool true]) ∧ Below w.heap.size w w' := by
  have H := Lib.hid h
  have hi2 : i ≤ s.size := by omega
  clear h
  go_enter Tryz.func28, Tryz.ntmps28
  go_wp2_with fail
  refine H.out.mono ?_
  rintro e w1 ⟨rfl, rfl⟩
  go_upto_region 3 with (fail)
  go_quiet (fail)
  go_wp2
  go_ret3
  exact ⟨rfl, bel_drewN (Below.refl _ _) _⟩
theorem cut18 (s Z a b : ByteArray) (w : World) (h : Calls Tryz.prog 28 #[.string s, .string Z] w fun e w' => e = .returned (.tuple #[.string a, .string b, .bool true]) ∧ Below w.heap.size w w') : Calls Tryz.prog 18 #[.string s, .string Z] w fun e w' => e = .returned (.tuple #[.string a, .string b, .bool true]) ∧ Below w.heap.size w w' := by
  have H := Lib.hid h
  clear h
  go_enter Tryz.func18, Tryz.ntmps18
  go_wp2_with fail
  refine H.out.mono ?_
  rintro e w1 ⟨rfl, hb⟩
  go_wp2
  go_ret3
  exact ⟨rfl, hb⟩
theorem cut_big (s : ByteArray) (x : UInt8) (L r : List UInt8) (w : World) (hV : Vars w) (hs : bl s = (x :: L) ++ 13 :: 10 :: r) (h13 : (13 : UInt8) ∉ x :: L) (hL : L.length ≤ 20) (hz : s.size ≤ 9223372036854775800) : Calls Tryz.prog 18 #[.string s, .string ⟨#[13, 10]⟩] w fun e w' => e = .returned (.tuple #[.string ⟨(Lib.cut (bl s) [13, 10]).1.toArray⟩, .string ⟨(Lib.cut (bl s) [13, 10]).2.1.toArray⟩, .bool (Lib.cut (bl s) [13, 10]).2.2]) ∧ Below w.heap.size w w' := by
  by_cases h64 : 64 < s.size
  · obtain ⟨mx, hm⟩ := hV.max
    have h := cut18 s _ _ _ w (cut28 s ⟨#[13, 10]⟩ (L.length + 1) w rfl (by omega) hz (index_near s x L r w mx hm hs h13 h64 hL hz))
    have hc : Lib.cut (bl s) [13, 10] = (x :: L, r, true) := by rw [hs, M.cut_crlf _ _ h13]
    rw [hc]
    have e1 : s.extract 0 (L.length + 1) = ⟨(x :: L).toArray⟩ := bl_inj (by rw [bl_cut, bl_mk (x :: L), hs, List.drop_zero]; exact List.take_left' rfl)
    have e2 : s.extract (L.length + 1 + 2) s.size = ⟨r.toArray⟩ := bl_inj (by
      rw [bl_from, bl_mk r, hs]
      have : (x :: L) ++ 13 :: 10 :: r = ((x :: L) ++ [13, 10]) ++ r := by simp
      rw [this]
      exact List.drop_left' (by simp))
    rw [e1, e2] at h
    exact h
  · exact cut2_any s w (by omega) hV

set_option maxHeartbeats 2000000 in
theorem answerState_big (s : ByteArray) (w : World) (hs : s.size ≤ 281474976710656) (hV : Vars w) : Calls Tryz.prog 16 #[.string s] w fun e w' => e = .returned (.int .i64 (stateN (bl s) : Int)) ∧ Below w.heap.size w w' := by
  have hcp := cp_any s ⟨#[72, 84, 84, 80, 47, 49, 46, 49, 32]⟩ w
  rw [bl_v9] at hcp
  have hsz : (bl s).length = s.size := bl_len s
  have hst : stateN (bl s) = if Lib.hasPrefix (bl s) M.v9 = true then (if ((bl s).drop 9).length < 3 then 0 else match M.num (((bl s).drop 9).take 3) with | some n => n | none => 0) else 0 := rfl
  generalize stateN (bl s) = N at *
  have hl9 : M.v9.length = 9 := rfl
  rw [hl9] at hcp
  have hdl : ((bl s).drop 9).length ≤ 281474976710656 := by simp; omega
  generalize (bl s).drop 9 = T at *
  generalize bl s = L at *
  have HV := Lib.hid hV
  clear hV hsz hl9
  cases hp : Lib.hasPrefix L M.v9 with
  | false =>
    rw [hp] at hcp hst
    have HN := Lib.hid hst
    have HCP := Lib.hid hcp
    clear hcp hst
    simp only [Bool.false_eq_true, if_false] at HCP HN
    go_enter Tryz.func16, Tryz.ntmps16
    go_wp2_with fail
    refine HCP.out.mono ?_
    rintro e w1 ⟨rfl, rfl⟩
    go_wp2
    go_ret
    exact ⟨by rw [HN.out]; rfl, Below.refl _ _⟩
  | true =>
    rw [hp] at hcp hst
    obtain ⟨B, hB⟩ : ∃ B : ByteArray, B = ⟨T.toArray⟩ := ⟨_, rfl⟩
    have hBT : bl B = T := by rw [hB]
    have hBs : B.size = T.length := by rw [← hBT]; exact (bl_len B).symm
    rw [if_pos rfl] at hcp hst
    rw [← hB] at hcp
    have HCP := Lib.hid hcp
    clear hcp hB
    by_cases h3 : T.length < 3
    · rw [if_pos h3] at hst
      have HN := Lib.hid hst
      have hq : B.size < 3 := by omega
      clear hst hBT hBs h3 hdl hs
      go_enter Tryz.func16, Tryz.ntmps16
      go_wp2_with fail
      refine HCP.out.mono ?_
      rintro e w1 ⟨rfl, rfl⟩
      go_wp2
      go_ret
      exact ⟨by rw [HN.out]; rfl, Below.refl _ _⟩
    · rw [if_neg h3] at hst
      have hq : ¬ B.size < 3 := by omega
      have hq3 : 3 ≤ B.size := by omega
      have HNU := Lib.hid (number_any (B.extract 0 3) w (by simp; omega) HV.out)
      rw [bl_cut, hBT, List.drop_zero] at HNU
      have HN := Lib.hid hst
      have HBT := Lib.hid hBT
      clear hst hBT hBs h3 hdl hs
      go_enter Tryz.func16, Tryz.ntmps16
      cases hm : M.num (T.take 3) with
      | none =>
        have HX := Lib.hid (numT_none hm)
        have HN2 : Hid (N = 0) := Lib.hid (by rw [HN.out, hm])
        rw [HX.out] at HNU
        clear hm
        go_wp2_with fail
        refine HCP.out.mono ?_
        rintro e w1 ⟨rfl, rfl⟩
        go_wp2_with fail
        refine HNU.out.mono ?_
        rintro e w1 ⟨rfl, hb⟩
        go_wp2
        go_ret
        exact ⟨by rw [HN2.out]; rfl, hb⟩
      | some n =>
        have HX := Lib.hid (numT_some hm)
        have HN2 : Hid (N = n) := Lib.hid (by rw [HN.out, hm])
        rw [HX.out] at HNU
        clear hm
        go_wp2_with fail
        refine HCP.out.mono ?_
        rintro e w1 ⟨rfl, rfl⟩
        go_wp2_with fail
        refine HNU.out.mono ?_
        rintro e w1 ⟨rfl, hb⟩
        go_wp2
        go_ret
        exact ⟨by rw [HN2.out]; rfl, hb⟩
set_option maxHeartbeats 8000000 in
theorem Answer_big (s : ByteArray) (w : World) (hs : s.size ≤ 281474976710656) (hV : Vars w) (hcutB : ∀ B : ByteArray, bl B = (bl s).drop (M.frontB (stateN (bl s))).length → ∀ W, Below w.heap.size w W → Calls Tryz.prog 18 #[.string B, .string ⟨#[13, 10]⟩] W fun e w' => e = .returned (.tuple #[.string ⟨(Lib.cut (bl B) [13, 10]).1.toArray⟩, .string ⟨(Lib.cut (bl B) [13, 10]).2.1.toArray⟩, .bool (Lib.cut (bl B) [13, 10]).2.2]) ∧ Below W.heap.size W w') (hc1 : (Lib.cut ((bl s).drop (M.frontB (stateN (bl s))).length) [13, 10]).1.length ≤ 100000) : Calls Tryz.prog 8 #[.string s] w fun e w' => e = .returned (ansV (progAns (bl s))) ∧ Below w.heap.size w w' := by
  have hVB : ∀ W, Below w.heap.size w W → Vars W := fun W hb => hV.below hb
  have HAS := Lib.hid (answerState_big s w hs hV)
  have hN := stateN_lt (bl s)
  have hpa : progAns (bl s) = if Lib.hasPrefix (bl s) (M.frontB (stateN (bl s))) = true then (if 100 ≤ stateN (bl s) ∧ stateN (bl s) ≤ 999 then (match M.ansP ((bl s).drop (M.frontB (stateN (bl s))).length) with | some r => some (stateN (bl s), r.2.take r.1, (bl s).length - r.2.length + r.1) | none => none) else none) else none := rfl
  generalize progAns (bl s) = PA at *
  have HF := Lib.hid (fun W (hb : Below w.heap.size w W) => front_any (stateN (bl s)) hN W (hVB W hb))
  have HIS := Lib.hid (fun W => isState_any (stateN (bl s) : Int) W)
  have hcp := fun W => cp_any s ⟨(M.frontB (stateN (bl s))).toArray⟩ W
  generalize stateN (bl s) = N at *
  simp only [bl_mk (M.frontB N)] at hcp
  have hsz : (bl s).length = s.size := bl_len s
  unfold SaysT at HF
  generalize M.frontB N = FB at *
  obtain ⟨F, hF⟩ : ∃ F : ByteArray, F = ⟨FB.toArray⟩ := ⟨_, rfl⟩
  rw [← hF] at HF hcp
  clear hF
  have hTL : ((bl s).drop FB.length).length ≤ s.size := by rw [List.length_drop, hsz]; omega
  have hdl : ((bl s).drop FB.length).length ≤ 281474976710656 := by omega
  generalize (bl s).drop FB.length = T at *
  rw [hsz] at hpa
  generalize bl s = L at *
  cases hp : Lib.hasPrefix L FB with
  | false =>
    rw [hp] at hcp hpa
    simp only [Bool.false_eq_true, if_false] at hcp hpa
    have HCP := Lib.hid hcp
    have HPA := Lib.hid hpa
    clear hcp hpa hV hVB hcutB
    generalize decide (100 ≤ (N : Int) ∧ (N : Int) ≤ 999) = q at *
    go_enter Tryz.func8, Tryz.ntmps8
    go_wp2_with fail
    refine HAS.out.mono ?_
    rintro e w1 ⟨rfl, hb⟩
    have HB1 := Lib.hid hb
    clear hb
    go_wp2_with fail
    refine (HF.out w1 HB1.out).mono ?_
    rintro e w2 ⟨rfl, hb⟩
    have HB2 := Lib.hid (HB1.out.trans (hb.mono HB1.out.size))
    clear hb
    go_wp2_with fail
    refine (HCP.out w2).mono ?_
    rintro e w3 ⟨rfl, rfl⟩
    go_wp2_with fail
    refine (HIS.out w3).mono ?_
    rintro e w4 ⟨rfl, rfl⟩
    go_wp2
    all_goals
      go_ret3
      exact ⟨by rw [HPA.out]; rfl, HB2.out⟩
  | true =>
    rw [hp] at hcp hpa
    rw [if_pos rfl] at hpa
    simp only [if_true] at hcp
    obtain ⟨B, hB⟩ : ∃ B : ByteArray, B = ⟨T.toArray⟩ := ⟨_, rfl⟩
    have hBT : bl B = T := by rw [hB]
    have hBs : B.size = T.length := by rw [← hBT]; exact (bl_len B).symm
    rw [← hB] at hcp
    have HCP := Lib.hid hcp
    clear hcp hB
    by_cases hr : 100 ≤ N ∧ N ≤ 999
    · rw [if_pos hr] at hpa
      have hrd : decide (100 ≤ (N : Int) ∧ (N : Int) ≤ 999) = true := by simp; omega
      rw [hrd] at HIS
      have HCUT := Lib.hid (fun W (hb : Below w.heap.size w W) => hcutB B hBT W hb)
      rw [hBT] at HCUT
      have hcl := cut_len T
      have hAP : M.ansP T = match M.num (Lib.cut T [13, 10]).1 with
        | none => none
        | some n => if [13, 10] <+: (if M.closeB <+: (Lib.cut T [13, 10]).2.1 then (Lib.cut T [13, 10]).2.1.drop 19 else (Lib.cut T [13, 10]).2.1) ∧ n ≤ ((if M.closeB <+: (Lib.cut T [13, 10]).2.1 then (Lib.cut T [13, 10]).2.1.drop 19 else (Lib.cut T [13, 10]).2.1).drop 2).length then some (n, (if M.closeB <+: (Lib.cut T [13, 10]).2.1 then (Lib.cut T [13, 10]).2.1.drop 19 else (Lib.cut T [13, 10]).2.1).drop 2) else none := rfl
      generalize M.ansP T = AP at *
      generalize (Lib.cut T [13, 10]).1 = c1 at *
      generalize (Lib.cut T [13, 10]).2.1 = c2 at *
      generalize (Lib.cut T [13, 10]).2.2 = fnd at *
      obtain ⟨C1, hC1⟩ : ∃ C : ByteArray, C = ⟨c1.toArray⟩ := ⟨_, rfl⟩
      obtain ⟨C2, hC2⟩ : ∃ C : ByteArray, C = ⟨c2.toArray⟩ := ⟨_, rfl⟩
      have hC1b : bl C1 = c1 := by rw [hC1]
      have hC2b : bl C2 = c2 := by rw [hC2]
      have hC1s : C1.size ≤ 100000 := by rw [← bl_len, hC1b]; omega
      rw [← hC1, ← hC2] at HCUT
      clear hC1 hC2
      have HNU := Lib.hid (fun W (hb : Below w.heap.size w W) => number_any C1 W (by omega) (hVB W hb))
      rw [hC1b] at HNU
      have htp := fun W => tp_any C2 W
      rw [hC2b] at htp
      have hd2 : (if M.closeB <+: c2 then c2.drop 19 else c2).length ≤ c2.length := by split <;> simp
      generalize (if M.closeB <+: c2 then c2.drop 19 else c2) = d2 at *
      obtain ⟨D, hD⟩ : ∃ C : ByteArray, C = ⟨d2.toArray⟩ := ⟨_, rfl⟩
      have hDb : bl D = d2 := by rw [hD]
      rw [← hD] at htp
      have HTP := Lib.hid htp
      have hcq := fun W => cp_any D ⟨#[13, 10]⟩ W
      rw [bl_crlf, hDb] at hcq
      have h2 : ([13, 10] : List UInt8).length = 2 := rfl
      rw [h2] at hcq
      simp only [pre_iff [13, 10]] at hAP
      cases hm : M.num c1 with
      | none =>
        rw [hm] at hAP
        have HX := Lib.hid (numT_none hm)
        rw [HX.out] at HNU
        rw [hAP] at hpa
        have HPA := Lib.hid hpa
        clear hcutB hc1 hV hVB hcl hAP hC1b hC2b hC1s htp hd2 hD hDb hcq h2 hpa hm
        go_enter Tryz.func8, Tryz.ntmps8
        go_wp2_with fail
        refine HAS.out.mono ?_
        rintro e w1 ⟨rfl, hb⟩
        have HB1 := Lib.hid hb
        clear hb
        go_wp2_with fail
        refine (HF.out w1 HB1.out).mono ?_
        rintro e w2 ⟨rfl, hb⟩
        have HB2 := Lib.hid (HB1.out.trans (hb.mono HB1.out.size))
        clear hb
        go_wp2_with fail
        refine (HCP.out w2).mono ?_
        rintro e w3 ⟨rfl, rfl⟩
        go_wp2_with fail
        refine (HIS.out w3).mono ?_
        rintro e w4 ⟨rfl, rfl⟩
        go_wp2_with fail
        refine (HCUT.out w4 HB2.out).mono ?_
        rintro e w5 ⟨rfl, hb⟩
        have HB5 := Lib.hid (HB2.out.trans (hb.mono HB2.out.size))
        clear hb
        go_wp2_with fail
        refine (HNU.out w5 HB5.out).mono ?_
        rintro e w6 ⟨rfl, hb⟩
        have HB6 := Lib.hid (HB5.out.trans (hb.mono HB5.out.size))
        clear hb
        go_wp2
        go_ret3
        exact ⟨by rw [HPA.out]; rfl, HB6.out⟩
      | some m =>
        rw [hm] at hAP
        have HX := Lib.hid (numT_some hm)
        rw [HX.out] at HNU
        cases hq : Lib.hasPrefix d2 [13, 10] with
        | false =>
          rw [hq] at hAP hcq
          simp only [Bool.false_eq_true, false_and, if_false] at hAP hcq
          have HCQ := Lib.hid hcq
          rw [hAP] at hpa
          have HPA := Lib.hid hpa
          clear hcutB hc1 hV hVB hcl hAP hC1b hC2b hC1s htp hd2 hD hDb hcq h2 hpa hm
          go_enter Tryz.func8, Tryz.ntmps8
          go_wp2_with fail
          refine HAS.out.mono ?_
          rintro e w1 ⟨rfl, hb⟩
          have HB1 := Lib.hid hb
          clear hb
          go_wp2_with fail
          refine (HF.out w1 HB1.out).mono ?_
          rintro e w2 ⟨rfl, hb⟩
          have HB2 := Lib.hid (HB1.out.trans (hb.mono HB1.out.size))
          clear hb
          go_wp2_with fail
          refine (HCP.out w2).mono ?_
          rintro e w3 ⟨rfl, rfl⟩
          go_wp2_with fail
          refine (HIS.out w3).mono ?_
          rintro e w4 ⟨rfl, rfl⟩
          go_wp2_with fail
          refine (HCUT.out w4 HB2.out).mono ?_
          rintro e w5 ⟨rfl, hb⟩
          have HB5 := Lib.hid (HB2.out.trans (hb.mono HB2.out.size))
          clear hb
          go_wp2_with fail
          refine (HNU.out w5 HB5.out).mono ?_
          rintro e w6 ⟨rfl, hb⟩
          have HB6 := Lib.hid (HB5.out.trans (hb.mono HB5.out.size))
          clear hb
          go_wp2_with fail
          refine (HTP.out w6).mono ?_
          rintro e w7 ⟨rfl, rfl⟩
          go_wp2_with fail
          refine (HCQ.out w7).mono ?_
          rintro e w8 ⟨rfl, rfl⟩
          go_wp2
          go_ret3
          exact ⟨by rw [HPA.out]; rfl, HB6.out⟩
        | true =>
          rw [hq] at hAP hcq
          simp only [true_and, if_true] at hAP hcq
          have he3 : (d2.drop 2).length ≤ s.size := by rw [List.length_drop]; omega
          have he2 : (d2.drop 2).length ≤ 281474976710656 := by omega
          generalize d2.drop 2 = e2 at *
          obtain ⟨E, hE⟩ : ∃ C : ByteArray, C = ⟨e2.toArray⟩ := ⟨_, rfl⟩
          have hEb : bl E = e2 := by rw [hE]
          have hEs : E.size = e2.length := by rw [← hEb]; exact (bl_len E).symm
          rw [← hE] at hcq
          have HCQ := Lib.hid hcq
          by_cases hle : m ≤ e2.length
          · rw [if_pos hle] at hAP
            rw [hAP] at hpa
            simp only at hpa
            have HPA := Lib.hid hpa
            have hlt : ¬ (E.size : Int) < (m : Int) := by omega
            have hmE : m ≤ E.size := by omega
            have hE1 : E.size ≤ 281474976710656 := by omega
            have HCL := Lib.hid (fun W => clone_any (E.extract 0 m) W (by simp; omega))
            have HXB := Lib.hid (show bl (E.extract 0 m) = e2.take m by rw [bl_cut, hEb]; rfl)
            have HES := Lib.hid hEs
            have hES3 : E.size ≤ s.size := by omega
            clear hcutB hc1 hV hVB hcl hAP hC1b hC2b hC1s htp hd2 hD hDb hcq h2 hpa hm hE hEb hle hEs he2
            go_enter Tryz.func8, Tryz.ntmps8
            go_wp2_with fail
            refine HAS.out.mono ?_
            rintro e w1 ⟨rfl, hb⟩
            have HB1 := Lib.hid hb
            clear hb
            go_wp2_with fail
            refine (HF.out w1 HB1.out).mono ?_
            rintro e w2 ⟨rfl, hb⟩
            have HB2 := Lib.hid (HB1.out.trans (hb.mono HB1.out.size))
            clear hb
            go_wp2_with fail
            refine (HCP.out w2).mono ?_
            rintro e w3 ⟨rfl, rfl⟩
            go_wp2_with fail
            refine (HIS.out w3).mono ?_
            rintro e w4 ⟨rfl, rfl⟩
            go_wp2_with fail
            refine (HCUT.out w4 HB2.out).mono ?_
            rintro e w5 ⟨rfl, hb⟩
            have HB5 := Lib.hid (HB2.out.trans (hb.mono HB2.out.size))
            clear hb
            go_wp2_with fail
            refine (HNU.out w5 HB5.out).mono ?_
            rintro e w6 ⟨rfl, hb⟩
            have HB6 := Lib.hid (HB5.out.trans (hb.mono HB5.out.size))
            clear hb
            go_wp2_with fail
            refine (HTP.out w6).mono ?_
            rintro e w7 ⟨rfl, rfl⟩
            go_wp2_with fail
            refine (HCQ.out w7).mono ?_
            rintro e w8 ⟨rfl, rfl⟩
            go_wp2_with fail
            refine (HCL.out _).mono ?_
            rintro e w9 ⟨rfl, hb⟩
            have HB9 := Lib.hid (HB6.out.trans (hb.mono HB6.out.size))
            clear hb
            go_wp2
            go_ret3
            refine ⟨?_, HB9.out⟩
            rw [HPA.out]
            have e1 : E.extract 0 m = ⟨(e2.take m).toArray⟩ := bl_inj (by rw [HXB.out, bl_mk])
            have e3 : (s.size : Int) - (E.size : Int) + (m : Int) = ((s.size - e2.length + m : Nat) : Int) := by rw [← HES.out]; omega
            show Ending.returned (.tuple #[.int .i64 (N : Int), .string (E.extract 0 m), .int .i64 ((s.size : Int) - (E.size : Int) + (m : Int))]) = .returned (.tuple #[.int .i64 (N : Int), .string ⟨(e2.take m).toArray⟩, .int .i64 ((s.size - e2.length + m : Nat) : Int)])
            rw [e1, e3]
          · rw [if_neg hle] at hAP
            rw [hAP] at hpa
            have HPA := Lib.hid hpa
            have hlt : (E.size : Int) < (m : Int) := by omega
            clear hcutB hc1 hV hVB hcl hAP hC1b hC2b hC1s htp hd2 hD hDb hcq h2 hpa hm hE hEb hle hEs he2
            go_enter Tryz.func8, Tryz.ntmps8
            go_wp2_with fail
            refine HAS.out.mono ?_
            rintro e w1 ⟨rfl, hb⟩
            have HB1 := Lib.hid hb
            clear hb
            go_wp2_with fail
            refine (HF.out w1 HB1.out).mono ?_
            rintro e w2 ⟨rfl, hb⟩
            have HB2 := Lib.hid (HB1.out.trans (hb.mono HB1.out.size))
            clear hb
            go_wp2_with fail
            refine (HCP.out w2).mono ?_
            rintro e w3 ⟨rfl, rfl⟩
            go_wp2_with fail
            refine (HIS.out w3).mono ?_
            rintro e w4 ⟨rfl, rfl⟩
            go_wp2_with fail
            refine (HCUT.out w4 HB2.out).mono ?_
            rintro e w5 ⟨rfl, hb⟩
            have HB5 := Lib.hid (HB2.out.trans (hb.mono HB2.out.size))
            clear hb
            go_wp2_with fail
            refine (HNU.out w5 HB5.out).mono ?_
            rintro e w6 ⟨rfl, hb⟩
            have HB6 := Lib.hid (HB5.out.trans (hb.mono HB5.out.size))
            clear hb
            go_wp2_with fail
            refine (HTP.out w6).mono ?_
            rintro e w7 ⟨rfl, rfl⟩
            go_wp2_with fail
            refine (HCQ.out w7).mono ?_
            rintro e w8 ⟨rfl, rfl⟩
            go_wp2
            go_ret3
            exact ⟨by rw [HPA.out]; rfl, HB6.out⟩
    · rw [if_neg hr] at hpa
      have hrd : decide (100 ≤ (N : Int) ∧ (N : Int) ≤ 999) = false := by simp; omega
      rw [hrd] at HIS
      have HPA := Lib.hid hpa
      clear hV hVB hpa hr hrd hcutB
      go_enter Tryz.func8, Tryz.ntmps8
      go_wp2_with fail
      refine HAS.out.mono ?_
      rintro e w1 ⟨rfl, hb⟩
      have HB1 := Lib.hid hb
      clear hb
      go_wp2_with fail
      refine (HF.out w1 HB1.out).mono ?_
      rintro e w2 ⟨rfl, hb⟩
      have HB2 := Lib.hid (HB1.out.trans (hb.mono HB1.out.size))
      clear hb
      go_wp2_with fail
      refine (HCP.out w2).mono ?_
      rintro e w3 ⟨rfl, rfl⟩
      go_wp2_with fail
      refine (HIS.out w3).mono ?_
      rintro e w4 ⟨rfl, rfl⟩
      go_wp2
      go_ret3
      exact ⟨by rw [HPA.out]; rfl, HB2.out⟩
end Go.Proofs.YtdbinhbmhkbfeaaGreatDoor
