/-
  What the document's trim and length do, by contracts.
-/
import Derived.Test.YthgfjfljiadllaaGreatDoorHttpB
import Derived.Test.YthgfjfljiadllaaGreatDoorHttpMb
namespace Go.Proofs.YthgfjfljiadllaaGreatDoor
open Go.RowKit Mem
set_option linter.unusedVariables false
set_option maxRecDepth 100000

def szv : Value → Nat | .string s => s.size | _ => 0
theorem str_cons {t : ByteArray} (h : 0 < t.size) : bl t = t[0] :: bl (t.extract 1 t.size) := by
  have hl : 0 < (bl t).length := by rw [bl_len]; exact h
  rw [bl_from, ← List.drop_zero (l := bl t), List.drop_eq_getElem_cons hl]
  rfl
theorem str_snoc {t : ByteArray} (h : 0 < t.size) : bl t = bl (t.extract 0 (t.size - 1)) ++ [t[t.size - 1]] := by
  have hl : t.size - 1 < (bl t).length := by rw [bl_len]; omega
  rw [bl_cut, List.drop_zero]
  have := List.take_succ_eq_append_getElem hl
  rw [show t.size - 1 + 1 = (bl t).length by rw [bl_len]; omega, List.take_length] at this
  rw [← bl_get]
  exact this
def blankB (x : Nat) : Prop := x = 32 ∨ x = 9
instance (x : Nat) : Decidable (blankB x) := by unfold blankB; infer_instance
theorem blank_mem {b : UInt8} : ([32, 9] : List UInt8).contains b = decide (blankB b.toNat) := by
  rw [Bool.eq_iff_iff, decide_eq_true_eq]
  unfold blankB
  simp only [List.contains_cons, List.contains_nil, Bool.or_false, Bool.or_eq_true, beq_iff_eq]
  constructor
  · rintro (h | h) <;> subst h <;> decide
  · rintro (h | h)
    · exact .inl (UInt8.toNat_inj.1 h)
    · exact .inr (UInt8.toNat_inj.1 h)
theorem trimL_step {t : ByteArray} (h : 0 < t.size) (hc : blankB (t[0]).toNat) : Lib.trimLeftS (bl (t.extract 1 t.size)) [32, 9] = Lib.trimLeftS (bl t) [32, 9] := by
  rw [str_cons h]
  conv => rhs; unfold Lib.trimLeftS
  rw [List.dropWhile_cons, if_pos (by rw [blank_mem]; exact decide_eq_true hc)]
  rfl
theorem trimL_stop {t : ByteArray} (h : 0 < t.size) (hc : ¬ blankB (t[0]).toNat) : Lib.trimLeftS (bl t) [32, 9] = bl t := by
  rw [str_cons h]
  unfold Lib.trimLeftS
  rw [List.dropWhile_cons, if_neg (by rw [blank_mem]; simpa using hc)]
theorem trimR_step {t : ByteArray} (h : 0 < t.size) (hc : blankB (t[t.size - 1]).toNat) : Lib.trimRightS (bl (t.extract 0 (t.size - 1))) [32, 9] = Lib.trimRightS (bl t) [32, 9] := by
  conv => rhs; rw [str_snoc h]
  unfold Lib.trimRightS
  rw [List.reverse_append, List.reverse_singleton, List.singleton_append, List.dropWhile_cons, if_pos (by rw [blank_mem]; exact decide_eq_true hc)]
theorem trimR_stop {t : ByteArray} (h : 0 < t.size) (hc : ¬ blankB (t[t.size - 1]).toNat) : Lib.trimRightS (bl t) [32, 9] = bl t := by
  rw [str_snoc h]
  unfold Lib.trimRightS
  rw [List.reverse_append, List.reverse_singleton, List.singleton_append, List.dropWhile_cons, if_neg (by rw [blank_mem]; simpa using hc)]
  simp
theorem size_cut (t : ByteArray) (a b : Nat) : (t.extract a b).size = min b t.size - a := by simp

set_option maxHeartbeats 2000000 in
theorem ref_trim_any (s : ByteArray) (w : World) (hs : s.size ≤ 9223372036854775806) : Calls Tryz.prog 19 #[.string s] w fun e w' => e = .returned (.string ⟨(M.trim (bl s)).toArray⟩) ∧ w' = w := by
  have HT := Lib.hid (M.trim_eq (bl s))
  generalize M.trim (bl s) = R at *
  go_enter Tryz.func19, Tryz.ntmps19
  go_wp2
  go_loopw [0] (fun p wr => ∃ t : ByteArray, p = .string t ∧ t.size ≤ s.size ∧ Hid (Lib.trimLeftS (bl t) [32, 9] = Lib.trimLeftS (bl s) [32, 9]) ∧ wr = w) (fun p _ => szv p)
  case atStart => exact ⟨s, rfl, Nat.le_refl _, Lib.hid rfl, rfl⟩
  case round =>
    obtain ⟨t, rfl, hts, HI, rfl⟩ := hrel
    by_cases h0 : 0 < t.size
    · obtain ⟨x, hx⟩ : ∃ x, (t[0]).toNat = x := ⟨_, rfl⟩
      by_cases hc : blankB x
      · have HN := Lib.hid ((trimL_step h0 (by rw [hx]; exact hc)).trans HI.out)
        have hsz := size_cut t 1 t.size
        rcases hc with rfl | rfl
        all_goals
          go_wp2
          go_roundw
          case rel => exact ⟨t.extract 1 t.size, rfl, by omega, HN, trivial⟩
          case measure => simp [szv]; omega
      · have HS := Lib.hid (show Lib.trimRightS (bl t) [32, 9] = R by rw [HT.out, ← HI.out, trimL_stop h0 (by rw [hx]; exact hc)])
        unfold blankB at hc
        have h1 : ((x : Int) == 32) = false := by rw [beq_eq_false_iff_ne]; omega
        have h2 : ((x : Int) == 9) = false := by rw [beq_eq_false_iff_ne]; omega
        clear HI hc
        go_wp2
        go_loopw [0] (fun p w2 => ∃ t : ByteArray, p = .string t ∧ t.size ≤ s.size ∧ Hid (Lib.trimRightS (bl t) [32, 9] = R) ∧ w2 = wr) (fun p _ => szv p)
        case atStart => exact ⟨t, rfl, hts, HS, rfl⟩
        case round =>
          clear HS
          obtain ⟨t2, rfl, hts2, HI2, rfl⟩ := hrel
          by_cases h02 : 0 < t2.size
          · obtain ⟨x2, hx2⟩ : ∃ x2, (t2[t2.size - 1]).toNat = x2 := ⟨_, rfl⟩
            by_cases hc2 : blankB x2
            · have HN := Lib.hid ((trimR_step h02 (by rw [hx2]; exact hc2)).trans HI2.out)
              have hsz := size_cut t2 0 (t2.size - 1)
              obtain ⟨m, hm⟩ : ∃ m, t2.size = m + 1 := ⟨t2.size - 1, by omega⟩
              have hg : ((t2[m]'(by omega)).toNat) = x2 := by rw [← hx2]; congr 2; omega
              rw [show t2.size - 1 = m by omega] at HN hsz
              rcases hc2 with rfl | rfl
              all_goals
                go_wp2
                go_roundw
                case rel => exact ⟨t2.extract 0 m, rfl, by omega, HN, trivial⟩
                case measure => simp [szv]; omega
            · have HS := Lib.hid ((trimR_stop h02 (by rw [hx2]; exact hc2)).symm.trans HI2.out)
              obtain ⟨m, hm⟩ : ∃ m, t2.size = m + 1 := ⟨t2.size - 1, by omega⟩
              have hg : ((t2[m]'(by omega)).toNat) = x2 := by rw [← hx2]; congr 2; omega
              unfold blankB at hc2
              have h3 : ((x2 : Int) == 32) = false := by rw [beq_eq_false_iff_ne]; omega
              have h4 : ((x2 : Int) == 9) = false := by rw [beq_eq_false_iff_ne]; omega
              clear HI2 hc2
              go_wp2
              go_ret
              exact ⟨by rw [← HS.out]; simp, rfl⟩
          · have HS := Lib.hid (show bl t2 = R by
              have e : bl t2 = [] := List.eq_nil_of_length_eq_zero (by rw [bl_len]; omega)
              rw [← HI2.out, e]; rfl)
            clear HI2
            go_wp2
            go_ret
            exact ⟨by rw [← HS.out]; simp, rfl⟩
    · have HS := Lib.hid (show Lib.trimRightS (bl t) [32, 9] = R by
        have e : bl t = [] := List.eq_nil_of_length_eq_zero (by rw [bl_len]; omega)
        rw [HT.out, ← HI.out, e]; rfl)
      clear HI
      go_wp2
      go_loopw [0] (fun p w2 => ∃ t : ByteArray, p = .string t ∧ t.size ≤ s.size ∧ Hid (Lib.trimRightS (bl t) [32, 9] = R) ∧ w2 = wr) (fun p _ => szv p)
      case atStart => exact ⟨t, rfl, hts, HS, rfl⟩
      case round =>
        clear HS
        obtain ⟨t2, rfl, hts2, HI2, rfl⟩ := hrel
        by_cases h02 : 0 < t2.size
        · obtain ⟨x2, hx2⟩ : ∃ x2, (t2[t2.size - 1]).toNat = x2 := ⟨_, rfl⟩
          by_cases hc2 : blankB x2
          · have HN := Lib.hid ((trimR_step h02 (by rw [hx2]; exact hc2)).trans HI2.out)
            have hsz := size_cut t2 0 (t2.size - 1)
            obtain ⟨m, hm⟩ : ∃ m, t2.size = m + 1 := ⟨t2.size - 1, by omega⟩
            have hg : ((t2[m]'(by omega)).toNat) = x2 := by rw [← hx2]; congr 2; omega
            rw [show t2.size - 1 = m by omega] at HN hsz
            rcases hc2 with rfl | rfl
            all_goals
              go_wp2
              go_roundw
              case rel => exact ⟨t2.extract 0 m, rfl, by omega, HN, trivial⟩
              case measure => simp [szv]; omega
          · have HS := Lib.hid ((trimR_stop h02 (by rw [hx2]; exact hc2)).symm.trans HI2.out)
            obtain ⟨m, hm⟩ : ∃ m, t2.size = m + 1 := ⟨t2.size - 1, by omega⟩
            have hg : ((t2[m]'(by omega)).toNat) = x2 := by rw [← hx2]; congr 2; omega
            unfold blankB at hc2
            have h3 : ((x2 : Int) == 32) = false := by rw [beq_eq_false_iff_ne]; omega
            have h4 : ((x2 : Int) == 9) = false := by rw [beq_eq_false_iff_ne]; omega
            clear HI2 hc2
            go_wp2
            go_ret
            exact ⟨by rw [← HS.out]; simp, rfl⟩
        · have HS := Lib.hid (show bl t2 = R by
            have e : bl t2 = [] := List.eq_nil_of_length_eq_zero (by rw [bl_len]; omega)
            rw [← HI2.out, e]; rfl)
          clear HI2
          go_wp2
          go_ret
          exact ⟨by rw [← HS.out]; simp, rfl⟩
end Go.Proofs.YthgfjfljiadllaaGreatDoor
