/-
  What One, Pair and paired do, by contracts.
-/
import Derived.Test.YtbhoaajpkckihaaDoorWordsF
import Derived.BigQuiet
import Derived.Deep.QuietTactic
import Derived.Deep.RegionHeld3
namespace Go.Proofs.YtbhoaajpkckihaaDoor
open Go.RowKit Mem
set_option linter.unusedVariables false
set_option maxRecDepth 100000

namespace M
def one (l : List UInt8) : Bool := match words l with
  | [x] => decide (x.text = l)
  | _ => false
def pair (l : List UInt8) : Bool := match words l with
  | [x, y] => decide (x.text ++ 61 :: y.text = l)
  | _ => false
end M
def SaysB (b : Bool) (w : World) (e : Ending) (w' : World) : Prop := e = .returned (.bool b) ∧ Below w.heap.size w w'

theorem eq_str (a : List UInt8) (s : ByteArray) : (a == s.toList) = decide (a = bl s) := by
  rw [Lib.toList_data, Bool.eq_iff_iff]
  simp
theorem bel_drewN {B : Nat} {w w' : World} (h : Below B w w') (n : Nat) : Below B w (w'.drewN n) := ⟨h.os, h.tape, h.output, h.size, h.block⟩

set_option maxHeartbeats 1000000 in
theorem one_any (s : ByteArray) (w : World) (hs : s.size ≤ 1073741824) (hT : Tabs w) : Calls Tryd.prog 11 #[.string s] w (SaysB (M.one (bl s)) w) := by
  have HW := Lib.hid (words_any s w hs hT)
  clear hT
  have HO := Lib.hid (show M.one (bl s) = match M.words (bl s) with | [x] => decide (x.text = bl s) | _ => false from rfl)
  generalize M.words (bl s) = l at *
  by_cases h1 : l.length = 1
  · obtain ⟨x, rfl⟩ : ∃ x, l = [x] := List.length_eq_one_iff.1 h1
    clear h1
    go_enter Tryd.func11, Tryd.ntmps11
    go_wp2_with fail
    refine HW.out.mono ?_
    rintro e w1 ⟨v, rfl, hrow, hb⟩
    obtain ⟨A, c, rfl, hc, hcm⟩ := hrow.form
    obtain ⟨g, rfl, hg, c0, c1, c2⟩ := hrow.at_ (i := 0) (by simp)
    have HB := Lib.hid hb
    clear hrow hb
    simp only [List.length_cons, List.length_nil, List.getElem_cons_zero, Nat.zero_mul, Nat.zero_add] at c0 c1 c2 hc ⊢
    go_wp2
    go_ret
    refine ⟨?_, HB.out⟩
    rw [HO.out]
    show Ending.returned (Value.bool (x.text == s.toList)) = _
    rw [eq_str]
  · have HO2 := Lib.hid (show M.one (bl s) = false by
      rw [HO.out]
      split
      · simp at h1
      · rfl)
    have hq : ((l.length : Int) == 1) = false := by simp; omega
    clear h1
    go_enter Tryd.func11, Tryd.ntmps11
    go_wp2_with fail
    refine HW.out.mono ?_
    rintro e w1 ⟨v, rfl, hrow, hb⟩
    obtain ⟨A, c, rfl, hc, hcm⟩ := hrow.form
    have HB := Lib.hid hb
    clear hrow hb
    generalize l.length = m at *
    go_wp2
    go_ret
    exact ⟨by rw [HO2.out]; rfl, HB.out⟩

set_option maxHeartbeats 1000000 in
theorem pair_any (s : ByteArray) (w : World) (hs : s.size ≤ 1073741824) (hT : Tabs w) : Calls Tryd.prog 13 #[.string s] w (SaysB (M.pair (bl s)) w) := by
  have HW := Lib.hid (words_any s w hs hT)
  clear hT
  have HO := Lib.hid (show M.pair (bl s) = match M.words (bl s) with | [x, y] => decide (x.text ++ 61 :: y.text = bl s) | _ => false from rfl)
  have HALL := Lib.hid (M.words_all (bl s) 0)
  change Hid (∀ x ∈ M.words (bl s), _) at HALL
  generalize M.words (bl s) = l at *
  by_cases h1 : l.length = 2
  · obtain ⟨x, y, rfl⟩ : ∃ x y, l = [x, y] := by
      match l, h1 with
      | [x, y], _ => exact ⟨x, y, rfl⟩
    clear h1
    have hx32 := (HALL.out x (by simp)).1.le
    have hy32 := (HALL.out y (by simp)).1.le
    go_enter Tryd.func13, Tryd.ntmps13
    go_wp2_with fail
    refine HW.out.mono ?_
    rintro e w1 ⟨v, rfl, hrow, hb⟩
    obtain ⟨A, c, rfl, hc, hcm⟩ := hrow.form
    obtain ⟨g, rfl, hg, c0, _, _⟩ := hrow.at_ (i := 0) (by simp)
    obtain ⟨g', e', _, d0, _, _⟩ := hrow.at_ (i := 1) (by simp)
    injection e' with e'
    injection e' with e' _ _
    subst e'
    have HB := Lib.hid hb
    clear hrow hb
    simp only [List.length_cons, List.length_nil, List.getElem_cons_zero, List.getElem_cons_succ, Nat.zero_mul, Nat.zero_add, Nat.one_mul] at c0 d0 hc ⊢
    have h2c : (2 : Int) ≤ (c : Int) := by omega
    have a1 := bytes_app x.text [61]
    have a2 := bytes_app (x.text ++ [61]) y.text
    go_wp2_with fail
    go_quiet (fail)
    go_wp2
    go_ret
    refine ⟨?_, bel_drewN HB.out _⟩
    rw [HO.out]
    show Ending.returned (Value.bool (x.text ++ 61 :: y.text == s.toList)) = _
    rw [eq_str]
  · have HO2 := Lib.hid (show M.pair (bl s) = false by
      rw [HO.out]
      split
      · simp at h1
      · rfl)
    have hq : ((l.length : Int) == 2) = false := by simp; omega
    clear h1
    go_enter Tryd.func13, Tryd.ntmps13
    go_wp2_with fail
    refine HW.out.mono ?_
    rintro e w1 ⟨v, rfl, hrow, hb⟩
    obtain ⟨A, c, rfl, hc, hcm⟩ := hrow.form
    have HB := Lib.hid hb
    clear hrow hb
    generalize l.length = m at *
    go_wp2_with fail
    go_quiet (fail)
    go_wp2
    go_ret
    exact ⟨by rw [HO2.out]; rfl, bel_drewN HB.out _⟩

set_option maxHeartbeats 1000000 in
theorem ref_one_any (s : ByteArray) (w : World) (hs : s.size ≤ 1073741824) (hT : Tabs w) : Calls Tryd.prog 12 #[.string s] w (SaysB (M.one (bl s)) w) := by
  have HW := Lib.hid (ref_words_any s w hs hT)
  clear hT
  have HO := Lib.hid (show M.one (bl s) = match M.words (bl s) with | [x] => decide (x.text = bl s) | _ => false from rfl)
  generalize M.words (bl s) = l at *
  by_cases h1 : l.length = 1
  · obtain ⟨x, rfl⟩ : ∃ x, l = [x] := List.length_eq_one_iff.1 h1
    clear h1
    go_enter Tryd.func12, Tryd.ntmps12
    go_wp2_with fail
    refine HW.out.mono ?_
    rintro e w1 ⟨v, rfl, hrow, hb⟩
    obtain ⟨A, c, rfl, hc, hcm⟩ := hrow.form
    obtain ⟨g, rfl, hg, c0, c1, c2⟩ := hrow.at_ (i := 0) (by simp)
    have HB := Lib.hid hb
    clear hrow hb
    simp only [List.length_cons, List.length_nil, List.getElem_cons_zero, Nat.zero_mul, Nat.zero_add] at c0 c1 c2 hc ⊢
    go_wp2
    go_ret
    refine ⟨?_, HB.out⟩
    rw [HO.out]
    show Ending.returned (Value.bool (x.text == s.toList)) = _
    rw [eq_str]
  · have HO2 := Lib.hid (show M.one (bl s) = false by
      rw [HO.out]
      split
      · simp at h1
      · rfl)
    have hq : ((l.length : Int) == 1) = false := by simp; omega
    clear h1
    go_enter Tryd.func12, Tryd.ntmps12
    go_wp2_with fail
    refine HW.out.mono ?_
    rintro e w1 ⟨v, rfl, hrow, hb⟩
    obtain ⟨A, c, rfl, hc, hcm⟩ := hrow.form
    have HB := Lib.hid hb
    clear hrow hb
    generalize l.length = m at *
    go_wp2
    go_ret
    exact ⟨by rw [HO2.out]; rfl, HB.out⟩

set_option maxHeartbeats 1000000 in
theorem ref_pair_any (s : ByteArray) (w : World) (hs : s.size ≤ 1073741824) (hT : Tabs w) : Calls Tryd.prog 14 #[.string s] w (SaysB (M.pair (bl s)) w) := by
  have HW := Lib.hid (ref_words_any s w hs hT)
  clear hT
  have HO := Lib.hid (show M.pair (bl s) = match M.words (bl s) with | [x, y] => decide (x.text ++ 61 :: y.text = bl s) | _ => false from rfl)
  have HALL := Lib.hid (M.words_all (bl s) 0)
  change Hid (∀ x ∈ M.words (bl s), _) at HALL
  generalize M.words (bl s) = l at *
  by_cases h1 : l.length = 2
  · obtain ⟨x, y, rfl⟩ : ∃ x y, l = [x, y] := by
      match l, h1 with
      | [x, y], _ => exact ⟨x, y, rfl⟩
    clear h1
    have hx32 := (HALL.out x (by simp)).1.le
    have hy32 := (HALL.out y (by simp)).1.le
    go_enter Tryd.func14, Tryd.ntmps14
    go_wp2_with fail
    refine HW.out.mono ?_
    rintro e w1 ⟨v, rfl, hrow, hb⟩
    obtain ⟨A, c, rfl, hc, hcm⟩ := hrow.form
    obtain ⟨g, rfl, hg, c0, _, _⟩ := hrow.at_ (i := 0) (by simp)
    obtain ⟨g', e', _, d0, _, _⟩ := hrow.at_ (i := 1) (by simp)
    injection e' with e'
    injection e' with e' _ _
    subst e'
    have HB := Lib.hid hb
    clear hrow hb
    simp only [List.length_cons, List.length_nil, List.getElem_cons_zero, List.getElem_cons_succ, Nat.zero_mul, Nat.zero_add, Nat.one_mul] at c0 d0 hc ⊢
    have h2c : (2 : Int) ≤ (c : Int) := by omega
    have a1 := bytes_app x.text [61]
    have a2 := bytes_app (x.text ++ [61]) y.text
    go_wp2_with fail
    go_quiet (fail)
    go_wp2
    go_ret
    refine ⟨?_, bel_drewN HB.out _⟩
    rw [HO.out]
    show Ending.returned (Value.bool (x.text ++ 61 :: y.text == s.toList)) = _
    rw [eq_str]
  · have HO2 := Lib.hid (show M.pair (bl s) = false by
      rw [HO.out]
      split
      · simp at h1
      · rfl)
    have hq : ((l.length : Int) == 2) = false := by simp; omega
    clear h1
    go_enter Tryd.func14, Tryd.ntmps14
    go_wp2_with fail
    refine HW.out.mono ?_
    rintro e w1 ⟨v, rfl, hrow, hb⟩
    obtain ⟨A, c, rfl, hc, hcm⟩ := hrow.form
    have HB := Lib.hid hb
    clear hrow hb
    generalize l.length = m at *
    go_wp2_with fail
    go_quiet (fail)
    go_wp2
    go_ret
    exact ⟨by rw [HO2.out]; rfl, bel_drewN HB.out _⟩

set_option maxHeartbeats 1000000 in
theorem paired_any (s x1 x2 : ByteArray) (a1 z1 a2 z2 : Nat) (w : World) (hs : s.size ≤ 1073741824) (hz : z1 ≤ a2) (ha : a2 ≤ s.size) :
    Calls Tryd.prog 22 #[.string s, .agg #[.string x1, .int .i64 (a1 : Int), .int .i64 (z1 : Int)], .agg #[.string x2, .int .i64 (a2 : Int), .int .i64 (z2 : Int)]] w (SaysB (decide (((bl s).take a2).drop z1 = [61])) w) := by
  have HC := Lib.hid (bl_cut s z1 a2)
  go_enter Tryd.func22, Tryd.ntmps22
  go_wp2
  go_ret
  refine ⟨?_, ((Below.refl _ w).alloc (Nat.le_refl _) _).alloc (by simp) _⟩
  show Ending.returned (Value.bool ((s.extract z1 a2).toList == [61])) = _
  have e : ((s.extract z1 a2).toList == [61]) = decide (((bl s).take a2).drop z1 = [61]) := by
    rw [Lib.toList_data, Bool.eq_iff_iff, ← HC.out, beq_iff_eq, decide_eq_true_eq]
  rw [e]
end Go.Proofs.YtbhoaajpkckihaaDoor
