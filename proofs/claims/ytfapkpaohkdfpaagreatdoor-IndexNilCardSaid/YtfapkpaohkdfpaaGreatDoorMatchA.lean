/-
  The library's cmp.Less, cmp.Compare, cmp.Or and slices.BinarySearch at the types that package match uses; match.Order; the document's Ahead: by contracts.
-/
import Derived.Test.YtfapkpaohkdfpaaGreatDoorWordsN
import Derived.Test.YtfapkpaohkdfpaaGreatDoorMatchMath
namespace Go.Proofs.YtfapkpaohkdfpaaGreatDoor
open Go.RowKit Mem
set_option linter.unusedVariables false
set_option maxRecDepth 100000

def GivesB (b : Bool) (w : World) (e : Ending) (w' : World) : Prop := e = .returned (.bool b) ∧ w = w'
def GivesZ (z : Int) (w : World) (e : Ending) (w' : World) : Prop := e = .returned (.int .i64 z) ∧ w = w'

set_option maxHeartbeats 400000 in
theorem cmpNaNs_any (x : List UInt8) (w : World) : Calls Tryz.prog 95 #[.string ⟨x.toArray⟩] w (GivesB false w) := by
  go_enter Tryz.func95, Tryz.ntmps95
  go_wp2
  go_ret
  exact ⟨by simp, rfl⟩
set_option maxHeartbeats 400000 in
theorem cmpNaNi_any (x : Int) (w : World) : Calls Tryz.prog 94 #[.int .i64 x] w (GivesB false w) := by
  go_enter Tryz.func94, Tryz.ntmps94
  go_wp2
  go_ret
  exact ⟨by simp, rfl⟩
set_option maxHeartbeats 400000 in
theorem slNaNs_any (x : List UInt8) (w : World) : Calls Tryz.prog 144 #[.string ⟨x.toArray⟩] w (GivesB false w) := by
  go_enter Tryz.func144, Tryz.ntmps144
  go_wp2
  go_ret
  exact ⟨by simp, rfl⟩
set_option maxHeartbeats 400000 in
theorem less_any (x y : List UInt8) (w : World) : Calls Tryz.prog 138 #[.string ⟨x.toArray⟩, .string ⟨y.toArray⟩] w (GivesB (decide (x < y)) w) := by
  have HQ := Lib.hid (show Op.bytesLess x y = decide (x < y) from bytesLess_eq x y)
  go_enter Tryz.func138, Tryz.ntmps138
  go_wp2_with (go_at_call 95; refine (cmpNaNs_any _ _).mono ?_; rintro e w' ⟨rfl, rfl⟩)
  go_ret
  exact ⟨by rw [← HQ.out]; rfl, rfl⟩
set_option maxHeartbeats 400000 in
theorem compareS_any (x y : List UInt8) (w : World) : Calls Tryz.prog 64 #[.string ⟨x.toArray⟩, .string ⟨y.toArray⟩] w (GivesZ (M.cmpT x y) w) := by
  rcases M.T_tri x y with h | rfl | h
  · have hq : Op.bytesLess x y = true := by rw [bytesLess_eq]; simpa using h
    have HF := Lib.hid (M.cmpT_lt h)
    clear h
    go_enter Tryz.func64, Tryz.ntmps64
    go_wp2_with (go_at_call 95; refine (cmpNaNs_any _ _).mono ?_; rintro e w' ⟨rfl, rfl⟩)
    go_ret
    exact ⟨by first | rfl | (rw [HF.out]; rfl), rfl⟩
  · have hq : Op.bytesLess x x = false := by rw [bytesLess_eq]; simp [List.lt_irrefl]
    have HF := Lib.hid (M.cmpT_eq x)
    go_enter Tryz.func64, Tryz.ntmps64
    go_wp2_with (go_at_call 95; refine (cmpNaNs_any _ _).mono ?_; rintro e w' ⟨rfl, rfl⟩)
    go_ret
    exact ⟨by first | rfl | (rw [HF.out]; rfl), rfl⟩
  · have hq : Op.bytesLess y x = true := by rw [bytesLess_eq]; simpa using h
    have hq2 : Op.bytesLess x y = false := by
      rw [bytesLess_eq]
      simp only [decide_eq_false_iff_not]
      exact fun h2 => List.lt_irrefl _ (List.lt_trans h h2)
    have hq3 : (x == y) = false := by
      rw [beq_str]
      simp only [decide_eq_false_iff_not]
      intro e; subst e; exact List.lt_irrefl _ h
    have HF := Lib.hid (M.cmpT_gt h)
    clear h
    go_enter Tryz.func64, Tryz.ntmps64
    go_wp2_with (go_at_call 95; refine (cmpNaNs_any _ _).mono ?_; rintro e w' ⟨rfl, rfl⟩)
    go_ret
    exact ⟨by first | rfl | (rw [HF.out]; rfl), rfl⟩
set_option maxHeartbeats 400000 in
theorem compareI_any (x y : Int) (w : World) : Calls Tryz.prog 63 #[.int .i64 x, .int .i64 y] w (GivesZ (M.cmpI x y) w) := by
  rcases Int.lt_trichotomy x y with h | rfl | h
  · have HF := Lib.hid (M.cmpI_lt h)
    go_enter Tryz.func63, Tryz.ntmps63
    go_wp2_with (go_at_call 94; refine (cmpNaNi_any _ _).mono ?_; rintro e w' ⟨rfl, rfl⟩)
    go_ret
    exact ⟨by first | rfl | (rw [HF.out]; rfl), rfl⟩
  · have HF := Lib.hid (M.cmpI_eq x)
    go_enter Tryz.func63, Tryz.ntmps63
    go_wp2_with (go_at_call 94; refine (cmpNaNi_any _ _).mono ?_; rintro e w' ⟨rfl, rfl⟩)
    go_ret
    exact ⟨by first | rfl | (rw [HF.out]; rfl), rfl⟩
  · have HF := Lib.hid (M.cmpI_gt h)
    have h2 : ¬ x < y := by omega
    go_enter Tryz.func63, Tryz.ntmps63
    go_wp2_with (go_at_call 94; refine (cmpNaNi_any _ _).mono ?_; rintro e w' ⟨rfl, rfl⟩)
    go_ret
    exact ⟨by first | rfl | (rw [HF.out]; rfl), rfl⟩

/-- the place that is told does not matter -/
def Found (b : Bool) (w : World) (e : Ending) (w' : World) : Prop := ∃ i : Int, e = .returned (.tuple #[.int .i64 i, .bool b]) ∧ w = w'

set_option maxHeartbeats 2000000 in
theorem search_any (A : Option Addr) (n c B : Nat) (xs : List (List UInt8)) (x : List UInt8) (w : World) (h : RdV w B A n c (strs xs)) (hr : M.Rising xs) (hl : n < 4611686018427387904) :
    Calls Tryz.prog 127 #[.slice A n c, .string ⟨x.toArray⟩] w (Found (decide (x ∈ xs)) w) := by
  have HN := Lib.hid (show xs.length = n by have := h.1; simpa using this.symm)
  have HR := Lib.hid h
  have HS := Lib.hid hr
  have hc := h.2.1
  have hcm := h.max
  have H0 := Lib.hid (M.Split.start xs x)
  rw [HN.out] at H0
  clear h hr
  go_enter Tryz.func127, Tryz.ntmps127
  go_wp2
  go_loop [7, 8] (fun p q => ∃ i j : Nat, p = .int .i64 (i : Int) ∧ q = .int .i64 (j : Int) ∧ i ≤ j ∧ j ≤ n ∧ Hid (M.Split xs x i j)) (fun p q => (intOf q).toNat - (intOf p).toNat)
  case atStart => exact ⟨0, n, rfl, rfl, by omega, by omega, H0⟩
  case round =>
    obtain ⟨i, j, rfl, rfl, hij, hj, HU⟩ := hrel
    by_cases hlt : i < j
    · obtain ⟨h, hh⟩ : ∃ h, h = (i + j) / 2 := ⟨_, rfl⟩
      have hhj : h < j := by omega
      have hhi : i ≤ h := by omega
      have hix : h < xs.length := by rw [HN.out]; omega
      obtain ⟨b, off, rfl, hb, q⟩ := HR.out.at_ (show h < n by omega)
      rw [strs_at hix] at q
      have HH := Lib.hid (show ((i : Int) + (j : Int)) / 2 = (h : Int) by omega)
      subst hh
      by_cases hle : xs[(i + j) / 2] < x
      · have HU2 := Lib.hid (HU.out.up HS.out hix hle)
        have hq : decide (xs[(i + j) / 2] < x) = true := by simpa using hle
        clear hle
        generalize xs[(i + j) / 2] = y at *
        go_wp2_with (go_at_call 138; refine (less_any _ _ _).mono ?_; rintro e w' ⟨rfl, rfl⟩)
        go_round
        case rel => exact ⟨(i + j) / 2 + 1, j, by rw [HH.out]; go_num, rfl, by omega, by omega, HU2⟩
        case measure => simp [intOf]; omega
      · have HU2 := Lib.hid (HU.out.down HS.out hix hle)
        have hq : decide (xs[(i + j) / 2] < x) = false := by simpa using hle
        clear hle
        generalize xs[(i + j) / 2] = y at *
        go_wp2_with (go_at_call 138; refine (less_any _ _ _).mono ?_; rintro e w' ⟨rfl, rfl⟩)
        go_round
        case rel => exact ⟨i, (i + j) / 2, rfl, by rw [HH.out], by omega, by omega, HU2⟩
        case measure => simp [intOf]; omega
    · obtain rfl : i = j := by omega
      by_cases hin : i < n
      · have hix : i < xs.length := by rw [HN.out]; exact hin
        obtain ⟨b, off, rfl, hb, q⟩ := HR.out.at_ hin
        rw [strs_at hix] at q
        have hil : (i : Int) < (n : Int) := by omega
        have HF := Lib.hid (HU.out.at_ HS.out hix)
        by_cases he : xs[i] = x
        · have HF2 := Lib.hid (show decide (x ∈ xs) = true by rw [HF.out]; simpa using he)
          have hq2 : (xs[i] == x) = true := by rw [beq_str]; simpa using he
          clear he HF
          generalize xs[i] = y at *
          go_wp2_with (go_at_call 144; refine (slNaNs_any _ _).mono ?_; rintro e w' ⟨rfl, rfl⟩)
          go_ret2
          exact ⟨_, by rw [HF2.out]; rfl, rfl⟩
        · have HF2 := Lib.hid (show decide (x ∈ xs) = false by rw [HF.out]; simpa using he)
          have hq2 : (xs[i] == x) = false := by rw [beq_str]; simpa using he
          clear he HF
          generalize xs[i] = y at *
          go_wp2_with (go_at_call 144; refine (slNaNs_any _ _).mono ?_; rintro e w' ⟨rfl, rfl⟩)
          go_ret2
          exact ⟨_, by rw [HF2.out]; rfl, rfl⟩
      · have HF2 := Lib.hid (HU.out.none (by rw [HN.out]; omega))
        have hq : decide ((i : Int) < (n : Int)) = false := by simp; omega
        go_wp2_with (go_at_call 144; refine (slNaNs_any _ _).mono ?_; rintro e w' ⟨rfl, rfl⟩)
        go_ret2
        exact ⟨_, by rw [HF2.out]; rfl, rfl⟩
end Go.Proofs.YtfapkpaohkdfpaaGreatDoor
