/-
  What the laws' turned does; the law WordsCase.
-/
import Derived.Test.YtbhoaajpkckihaaDoorWordsI
namespace Go.Proofs.YtbhoaajpkckihaaDoor
open Go.RowKit Mem
set_option linter.unusedVariables false
set_option maxRecDepth 100000

def turnF (back : Bool) : UInt8 → UInt8 := if back then M.low else M.high
theorem high_turn {b : UInt8} {x : Nat} (hx : b.toNat = x) (h : 97 ≤ x ∧ x ≤ 122) : ((M.high b).toNat : Int) = (x : Int) - 32 := by
  have e : M.high b = b - 32 := by unfold M.high; rw [if_pos (by rw [hx]; exact h)]
  rw [e, UInt8.toNat_sub, hx]
  show (((256 - 32 + x) % 256 : Nat) : Int) = _
  omega
theorem low_turn {b : UInt8} {x : Nat} (hx : b.toNat = x) (h : 65 ≤ x ∧ x ≤ 90) : ((M.low b).toNat : Int) = (x : Int) + 32 := by
  have e : M.low b = b + 32 := by unfold M.low; rw [if_pos (by rw [hx]; exact h)]
  rw [e, UInt8.toNat_add, hx]
  show (((x + 32) % 256 : Nat) : Int) = _
  omega
theorem high_keep {b : UInt8} (h : ¬ (97 ≤ b.toNat ∧ b.toNat ≤ 122)) : M.high b = b := by unfold M.high; rw [if_neg h]

set_option maxHeartbeats 2000000 in
theorem turned_any (s : ByteArray) (back : Bool) (w : World) (hs : s.size ≤ 140737488355328) : Calls Tryd.prog 17 #[.string s, .bool back] w (SaysT ((bl s).map (turnF back)) w) := by
  obtain ⟨wb, c, hrun, hsc, hcm, hbs, hbel, hlt0⟩ := conv_bytes s w hs
  have hcm' : c ≤ 9223372036854775807 := by simpa only [maxLen] using hcm
  have HBS := Lib.hid (show Bs wb w.heap.size (partly (turnF back) (bl s) 0) by rw [partly_zero]; exact hbs)
  have HBEL := Lib.hid hbel
  have hln : (bl s).length = s.size := bl_len s
  clear hbs hbel hcm
  have HF := Lib.hid (show turnF back = if back then M.low else M.high from rfl)
  generalize turnF back = f at *
  go_enter Tryd.func17, Tryd.ntmps17
  go_wp2
  go_loopw [6] (fun p wr => ∃ i : Nat, p = .int .i64 (i : Int) ∧ i ≤ s.size ∧ Hid (Bs wr w.heap.size (partly f (bl s) i)) ∧ Hid (Below w.heap.size w wr) ∧ w.heap.size < wr.heap.size) (fun p _ => s.size - (intOf p).toNat)
  case atStart => exact ⟨0, rfl, by omega, HBS, HBEL, hlt0⟩
  case round =>
    obtain ⟨i, rfl, hi, HI, HB, hsz⟩ := hrel
    rename World => wr
    by_cases hlt : i < s.size
    · have hil : i < (bl s).length := by rw [hln]; exact hlt
      have hip : i < (partly f (bl s) i).length := by rw [partly_len]; exact hil
      obtain ⟨hcell, hfz⟩ := HI.out i hip
      rw [partly_at hil] at hcell
      obtain ⟨b, hb⟩ : ∃ b, (bl s)[i] = b := ⟨_, rfl⟩
      rw [hb] at hcell
      obtain ⟨x, hx⟩ : ∃ x, b.toNat = x := ⟨_, rfl⟩
      rw [hx] at hcell
      have hx256 : x < 256 := by rw [← hx]; exact UInt8.toNat_lt _
      have HBB := Lib.hid hb; have HX := Lib.hid hx
      have HNX := Lib.hid (partly_next (f := f) hil)
      have HPA := Lib.hid (partly_at (f := f) hil)
      have hil2 : (i : Int) < (s.size : Int) := by omega
      have HSET := Lib.hid (fun (v : UInt8) => HI.out.set hip v)
      clear hb hx
      cases back
      · have HFF := Lib.hid (show f = M.high from HF.out)
        by_cases hup : 97 ≤ x ∧ x ≤ 122
        · obtain ⟨h1, h2⟩ := hup
          have HLOW := Lib.hid (high_turn HX.out ⟨h1, h2⟩)
          have HBS2 := Lib.hid (show Bs (wr.setCell ⟨w.heap.size, i, none⟩ (.int .u8 ((x : Int) - 32))) w.heap.size (partly f (bl s) (i + 1)) by
            have := HSET.out (M.high b)
            rw [HNX.out, HBB.out, HFF.out]
            rw [HLOW.out] at this
            rw [← HFF.out] at this ⊢
            exact this)
          have HBL2 := Lib.hid (HB.out.setCell (p := ⟨w.heap.size, i, none⟩) (Nat.le_refl _) (.int .u8 ((x : Int) - 32)))
          go_wp2
          exact ⟨⟨i + 1, by go_num, by omega, HBS2, HBL2, by simpa using hsz⟩, by simp [intOf]; omega⟩
        · have HBS2 := Lib.hid (show Bs wr w.heap.size (partly f (bl s) (i + 1)) by
            rw [HNX.out, HBB.out, HFF.out, high_keep (by rw [HX.out]; exact hup), ← HFF.out, set_same hip b (by rw [HPA.out, HBB.out])]
            exact HI.out)
          by_cases h1 : 97 ≤ x <;> by_cases h2 : x ≤ 122 <;> first | (exfalso; omega) | skip
          all_goals
            go_wp2
            exact ⟨⟨i + 1, by go_num, by omega, HBS2, HB, hsz⟩, by simp [intOf]; omega⟩
      · have HFF := Lib.hid (show f = M.low from HF.out)
        by_cases hup : 65 ≤ x ∧ x ≤ 90
        · obtain ⟨h1, h2⟩ := hup
          have HLOW := Lib.hid (low_turn HX.out ⟨h1, h2⟩)
          have HBS2 := Lib.hid (show Bs (wr.setCell ⟨w.heap.size, i, none⟩ (.int .u8 ((x : Int) + 32))) w.heap.size (partly f (bl s) (i + 1)) by
            have := HSET.out (M.low b)
            rw [HNX.out, HBB.out, HFF.out]
            rw [HLOW.out] at this
            rw [← HFF.out] at this ⊢
            exact this)
          have HBL2 := Lib.hid (HB.out.setCell (p := ⟨w.heap.size, i, none⟩) (Nat.le_refl _) (.int .u8 ((x : Int) + 32)))
          go_wp2
          exact ⟨⟨i + 1, by go_num, by omega, HBS2, HBL2, by simpa using hsz⟩, by simp [intOf]; omega⟩
        · have HBS2 := Lib.hid (show Bs wr w.heap.size (partly f (bl s) (i + 1)) by
            rw [HNX.out, HBB.out, HFF.out, low_keep (by rw [HX.out]; exact hup), ← HFF.out, set_same hip b (by rw [HPA.out, HBB.out])]
            exact HI.out)
          by_cases h1 : 65 ≤ x <;> by_cases h2 : x ≤ 90 <;> first | (exfalso; omega) | skip
          all_goals
            go_wp2
            exact ⟨⟨i + 1, by go_num, by omega, HBS2, HB, hsz⟩, by simp [intOf]; omega⟩
    · have hrd := HI.out.rd (c := c) hsz (by rw [partly_len, hln]; exact hsc) (by simpa only [maxLen] using hcm')
      rw [partly_all (by rw [hln]; omega)] at hrd
      have hcv := run_str (P := Tryd.prog) wr wr.heap.size 44 9 5 Tryd.underlying44 Tryd.underlying5 Tryd.underlying9 _ _ _ _ hrd
      rw [List.length_map, hln] at hcv
      go_wp2
      go_ret
      exact ⟨rfl, HB.out⟩

set_option maxHeartbeats 2000000 in
theorem wordsCase_any (s : ByteArray) (w : World) (hs : s.size ≤ 1048576) (hT : Tabs w) : Calls Tryd.prog 6 #[.string s] w (SaysB true w) := by
  have HT := Lib.hid hT
  clear hT
  have HA := Lib.hid (M.terms_high (bl s))
  have HBB := Lib.hid (M.terms_low (bl s))
  go_enter Tryd.func6, Tryd.ntmps6
  go_wp2_with fail
  refine (awake_any w HT.out).mono ?_
  rintro e w1 ⟨rfl, hb1⟩
  have HB1 := Lib.hid hb1
  clear hb1
  go_wp2_with fail
  refine (turned_any s false w1 (by omega)).mono ?_
  rintro e w2 ⟨rfl, hb2⟩
  have HB2 := Lib.hid (HB1.out.trans (hb2.mono HB1.out.size))
  clear hb2
  have hc := terms_any ⟨((bl s).map M.high).toArray⟩ w2 (by show ((bl s).map M.high).toArray.size ≤ _; simp; omega) (HT.out.below HB2.out)
  have e1 : bl ⟨((bl s).map M.high).toArray⟩ = (bl s).map M.high := rfl
  rw [e1, HA.out] at hc
  have HC := Lib.hid hc
  clear hc
  go_wp2_with fail
  refine HC.out.mono ?_
  rintro e w3 ⟨A3, c3, rfl, hr3, hb3⟩
  have HR3 := Lib.hid hr3
  have HB3 := Lib.hid (HB2.out.trans (hb3.mono HB2.out.size))
  clear hr3 hb3 HC
  go_wp2_with fail
  refine (turned_any s true w3 (by omega)).mono ?_
  rintro e w4 ⟨rfl, hb4⟩
  have HR34 := Lib.hid (HR3.out.below hb4)
  have HB4 := Lib.hid (HB3.out.trans (hb4.mono HB3.out.size))
  have hsz4 := hb4.size
  clear hb4
  have hc := terms_any ⟨((bl s).map M.low).toArray⟩ w4 (by show ((bl s).map M.low).toArray.size ≤ _; simp; omega) (HT.out.below HB4.out)
  have e2 : bl ⟨((bl s).map M.low).toArray⟩ = (bl s).map M.low := rfl
  rw [e2, HBB.out] at hc
  have HC := Lib.hid hc
  clear hc
  go_wp2_with fail
  refine HC.out.mono ?_
  rintro e w5 ⟨A5, c5, rfl, hr5, hb5⟩
  have HR35 := Lib.hid (HR34.out.below (hb5.mono hsz4))
  have HR5 := Lib.hid hr5
  have HB5 := Lib.hid (HB4.out.trans (hb5.mono HB4.out.size))
  have hsz5 := hb5.size
  clear hr5 hb5 HC
  go_wp2_with fail
  refine (terms_any s w5 (by omega) (HT.out.below HB5.out)).mono ?_
  rintro e w6 ⟨A6, c6, rfl, hr6, hb6⟩
  have HR36 := Lib.hid (HR35.out.below (hb6.mono (Nat.le_trans hsz4 hsz5)))
  have HR56 := Lib.hid (HR5.out.below hb6)
  have HR6 := Lib.hid hr6
  have HB6 := Lib.hid (HB5.out.trans (hb6.mono HB5.out.size))
  have hsz6 := hb6.size
  clear hr6 hb6
  generalize M.terms (bl s) = xs at *
  obtain ⟨m, hm⟩ : ∃ m, xs.length = m := ⟨_, rfl⟩
  have HM := Lib.hid hm
  rw [hm] at HR36 HR56 HR6 ⊢
  have hc3 := HR36.out.2.1
  have hc5 := HR56.out.2.1
  have hc6 := HR6.out.2.1
  have hm3 := HR36.out.max
  have hm5 := HR56.out.max
  have hm6 := HR6.out.max
  clear hm
  go_wp2
  go_loopw [6] (fun p wr => ∃ i : Nat, p = .int .i64 (i : Int) ∧ i ≤ m ∧ Hid (Below w6.heap.size w6 wr)) (fun p _ => m - (intOf p).toNat)
  case atStart => exact ⟨0, rfl, by omega, Lib.hid (Below.refl _ _)⟩
  case round =>
    obtain ⟨i, rfl, him, HB⟩ := hrel
    rename World => wr
    by_cases hlt : i < m
    · have hix : i < xs.length := by rw [HM.out]; exact hlt
      obtain ⟨g1, o1, rfl, _, q1⟩ := (HR36.out.below (HB.out.mono (by omega))).at_ hlt
      obtain ⟨g2, o2, rfl, _, q2⟩ := (HR56.out.below (HB.out.mono (by omega))).at_ hlt
      obtain ⟨g3, o3, rfl, _, q3⟩ := (HR6.out.below HB.out).at_ hlt
      rw [strs_at hix] at q1 q2 q3
      generalize xs[i] = x at *
      have hil : (i : Int) < (m : Int) := by omega
      go_wp2_with fail
      go_quiet (fail)
      go_wp2
      go_roundw
      case rel => exact ⟨i + 1, by go_num, by omega, Lib.hid (bel_drewN HB.out _)⟩
      case measure => simp [intOf]; omega
    · go_wp2
      go_ret
      exact ⟨rfl, HB6.out.trans (HB.out.mono HB6.out.size)⟩
end Go.Proofs.YtbhoaajpkckihaaDoor
