/-
  What the laws' awake does; the law WordsTold.
-/
import Derived.Test.YtbhoaajpkckihaaDoorWordsH
namespace Go.Proofs.YtbhoaajpkckihaaDoor
open Go.RowKit Mem
set_option linter.unusedVariables false
set_option maxRecDepth 100000

def exText : ByteArray := ⟨#[82, 101, 100, 32, 97, 112, 112, 108, 101, 61, 71, 82, 69, 69, 78, 32, 114, 101, 100]⟩
theorem ex_terms : M.terms (bl exText) = [[97, 112, 112, 108, 101], [97, 112, 112, 108, 101, 61, 103, 114, 101, 101, 110], [103, 114, 101, 101, 110], [114, 101, 100]] := by decide +kernel
theorem ex_one : M.one (bl ⟨#[82, 101, 100]⟩) = false := by decide +kernel

set_option maxHeartbeats 1000000 in
theorem awake_any (w : World) (hT : Tabs w) : Calls Tryd.prog 8 #[] w (SaysB true w) := by
  have HT := Lib.hid hT
  have HC := Lib.hid (terms_any exText w (by decide) hT)
  rw [ex_terms] at HC
  clear hT
  go_enter Tryd.func8, Tryd.ntmps8
  go_wp2_with fail
  refine HC.out.mono ?_
  rintro e w1 ⟨A, c, rfl, hr, hb⟩
  obtain ⟨b, off, rfl, hbl, hcell⟩ := hr.at_ (k := 1) (by simp)
  rw [strs_at (by simp)] at hcell
  have hc := hr.2.1
  have hcm := hr.max
  have HO := Lib.hid (one_any ⟨#[82, 101, 100]⟩ w1 (by decide) (HT.out.below hb))
  rw [ex_one] at HO
  have HB := Lib.hid hb
  clear hr hb
  simp only [List.length_cons, List.length_nil, List.getElem_cons_succ, List.getElem_cons_zero] at hcell hc ⊢
  go_wp2_with fail
  refine HO.out.mono ?_
  rintro e w2 ⟨rfl, hb2⟩
  go_wp2
  go_ret
  exact ⟨rfl, HB.out.trans (hb2.mono HB.out.size)⟩

set_option maxHeartbeats 2000000 in
theorem wordsTold_any (s : ByteArray) (w : World) (hs : s.size ≤ 1048576) (hT : Tabs w) : Calls Tryd.prog 3 #[.string s] w (SaysB true w) := by
  have HT := Lib.hid hT
  clear hT
  go_enter Tryd.func3, Tryd.ntmps3
  go_wp2_with fail
  refine (awake_any w HT.out).mono ?_
  rintro e w1 ⟨rfl, hb1⟩
  have HB1 := Lib.hid hb1
  clear hb1
  go_wp2_with fail
  refine (words_any s w1 (by omega) (HT.out.below HB1.out)).mono ?_
  rintro e w2 ⟨v2, rfl, hr2, hb2⟩
  obtain ⟨A2, c2, rfl, hc2, hcm2⟩ := hr2.form
  have HR2 := Lib.hid hr2
  have HB2 := Lib.hid (HB1.out.trans (hb2.mono HB1.out.size))
  clear hr2 hb2
  go_wp2_with fail
  refine (ref_words_any s w2 (by omega) (HT.out.below HB2.out)).mono ?_
  rintro e w3 ⟨v3, rfl, hr3, hb3⟩
  obtain ⟨A3, c3, rfl, hc3, hcm3⟩ := hr3.form
  have HR3 := Lib.hid hr3
  have HR23 := Lib.hid (HR2.out.below hb3)
  have HB3 := Lib.hid (HB2.out.trans (hb3.mono HB2.out.size))
  clear hr3 hb3
  have hml := M.words_len (bl s) 0
  change (M.words (bl s)).length ≤ _ at hml
  rw [bl_len] at hml
  generalize M.words (bl s) = ws at *
  obtain ⟨m, hm⟩ : ∃ m, ws.length = m := ⟨_, rfl⟩
  have HM := Lib.hid hm
  rw [hm] at hc2 hc3 hml HR23 HR3 ⊢
  clear hm
  go_wp2
  go_loopw [5] (fun p wr => ∃ i : Nat, p = .int .i64 (i : Int) ∧ i ≤ m ∧ Hid (Below w3.heap.size w3 wr)) (fun p _ => m - (intOf p).toNat)
  case atStart => exact ⟨0, rfl, by omega, Lib.hid (Below.refl _ _)⟩
  case round =>
    obtain ⟨i, rfl, him, HB⟩ := hrel
    rename World => wr
    by_cases hlt : i < m
    · have hiw : i < ws.length := by rw [HM.out]; exact hlt
      obtain ⟨g, rfl, hg, c0, c1, c2'⟩ := (HR23.out.below HB.out).at_ hiw
      obtain ⟨g', rfl, hg', d0, d1, d2⟩ := (HR3.out.below HB.out).at_ hiw
      generalize ws[i] = x at *
      have hil : (i : Int) < (m : Int) := by omega
      go_wp2_with fail
      go_quiet (fail)
      go_wp2
      go_roundw
      case rel => exact ⟨i + 1, by go_num, by omega, Lib.hid (bel_drewN HB.out _)⟩
      case measure => simp [intOf]; omega
    · have HBW := Lib.hid (HB3.out.trans (HB.out.mono HB3.out.size))
      have HO1 := Lib.hid (fun (W : World) (h : Below w.heap.size w W) => one_any s W (by omega) (HT.out.below h))
      have HO2 := Lib.hid (fun (W : World) (h : Below w.heap.size w W) => ref_one_any s W (by omega) (HT.out.below h))
      have HP1 := Lib.hid (fun (W : World) (h : Below w.heap.size w W) => pair_any s W (by omega) (HT.out.below h))
      have HP2 := Lib.hid (fun (W : World) (h : Below w.heap.size w W) => ref_pair_any s W (by omega) (HT.out.below h))
      generalize M.one (bl s) = b1 at *
      generalize M.pair (bl s) = b2 at *
      cases b1 <;> cases b2
      all_goals
        go_wp2_with fail
        refine (HO1.out wr HBW.out).mono ?_
        rintro e w4 ⟨rfl, hb4⟩
        have HB4 := Lib.hid (HBW.out.trans (hb4.mono HBW.out.size))
        clear hb4
        go_wp2_with fail
        refine (HO2.out w4 HB4.out).mono ?_
        rintro e w5 ⟨rfl, hb5⟩
        have HB5 := Lib.hid (HB4.out.trans (hb5.mono HB4.out.size))
        clear hb5
        go_wp2_with fail
        refine (HP1.out w5 HB5.out).mono ?_
        rintro e w6 ⟨rfl, hb6⟩
        have HB6 := Lib.hid (HB5.out.trans (hb6.mono HB5.out.size))
        clear hb6
        go_wp2_with fail
        refine (HP2.out w6 HB6.out).mono ?_
        rintro e w7 ⟨rfl, hb7⟩
        have HB7 := Lib.hid (HB6.out.trans (hb7.mono HB6.out.size))
        clear hb7
        go_wp2
        go_ret
        exact ⟨rfl, HB7.out⟩
end Go.Proofs.YtbhoaajpkckihaaDoor
