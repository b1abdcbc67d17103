/-
  What the document's length and first do, by contracts.
-/
import Derived.Test.YtdbinhbmhkbfeaaGreatDoorHttpI
namespace Go.Proofs.YtdbinhbmhkbfeaaGreatDoor
open Go.RowKit Mem
set_option linter.unusedVariables false
set_option maxRecDepth 100000

def lz : Option Nat → Int | some n => (n : Int) | none => -1
theorem digB_iff (c : UInt8) : M.digB c = true ↔ 48 ≤ c.toNat ∧ c.toNat ≤ 57 := by unfold M.digB; simp
theorem len9_of {l : List UInt8} (h : l.length ≤ 9) : M.len9 l = if M.canon l = true then some (M.dval l) else none := by
  unfold M.len9
  rw [if_pos h, M.num_canon (by omega)]
theorem len9_no {l : List UInt8} (h : M.canon l = false ∨ 9 < l.length) : lz (M.len9 l) = -1 := by
  by_cases h9 : l.length ≤ 9
  · rcases h with h | h
    · rw [len9_of h9, if_neg (by rw [h]; simp)]; rfl
    · omega
  · unfold M.len9; rw [if_neg h9]; rfl
theorem dval_take {l : List UInt8} {i : Nat} (h : i < l.length) : M.dval (l.take (i + 1)) = 10 * M.dval (l.take i) + (l[i].toNat - 48) := by
  rw [List.take_succ_eq_append_getElem h, M.dval_snoc]
theorem dval_bound {l : List UInt8} {i : Nat} (h : PreAll M.digB l i) (hi : i ≤ 9) : M.dval (l.take i) < 1000000000 := by
  have h1 := M.dval_lt _ h
  have h2 : (10 : Nat) ^ (l.take i).length ≤ 10 ^ 9 := Nat.pow_le_pow_right (by omega) (by simp; omega)
  omega

set_option maxHeartbeats 2000000 in
theorem ref_length_any (s : ByteArray) (w : World) (hs : s.size ≤ 9223372036854775806) : Calls Tryz.prog 22 #[.string s] w (SaysZ (lz (M.len9 (bl s))) w) := by
  have hln : (bl s).length = s.size := bl_len s
  by_cases h0 : s.size < 1
  · have HR := Lib.hid (show lz (M.len9 (bl s)) = -1 from len9_no (.inl (by
      have e : bl s = [] := List.eq_nil_of_length_eq_zero (by omega)
      rw [e]; rfl)))
    go_enter Tryz.func22, Tryz.ntmps22
    go_wp2
    go_ret
    exact ⟨by rw [HR.out]; rfl, rfl⟩
  · by_cases h9 : 9 < s.size
    · have HR := Lib.hid (show lz (M.len9 (bl s)) = -1 from len9_no (.inr (by omega)))
      have h0' : 1 ≤ s.size := by omega
      go_enter Tryz.func22, Tryz.ntmps22
      go_wp2
      go_ret
      exact ⟨by rw [HR.out]; rfl, rfl⟩
    · have hp0 : 0 < s.size := by omega
      obtain ⟨x, hx⟩ : ∃ x, (s[0]).toNat = x := ⟨_, rfl⟩
      by_cases h48 : 1 < s.size ∧ x = 48
      · obtain ⟨h1, rfl⟩ := h48
        have HR := Lib.hid (show lz (M.len9 (bl s)) = -1 from len9_no (.inl (by
          rw [Bool.eq_false_iff]
          intro hc
          rcases ((M.canon_iff _).1 hc).2.2 with h | h
          · omega
          · apply h
            rw [List.head?_eq_getElem?, List.getElem?_eq_getElem (by omega)]
            exact congrArg some (UInt8.toNat_inj.1 hx))))
        go_enter Tryz.func22, Tryz.ntmps22
        go_wp2
        go_ret
        exact ⟨by rw [HR.out]; rfl, rfl⟩
      · have HH := Lib.hid (show (bl s).length ≤ 1 ∨ (bl s).head? ≠ some 48 by
          by_cases h1 : s.size ≤ 1
          · exact .inl (by omega)
          · refine .inr fun h => h48 ⟨by omega, ?_⟩
            rw [List.head?_eq_getElem?, List.getElem?_eq_getElem (by omega)] at h
            injection h with h
            rw [← hx, show s[0] = (48 : UInt8) from h]; rfl)
        have hb1 : 1 ≤ s.size := by omega
        have hb9 : s.size ≤ 9 := by omega
        have hne : ((x : Int) == 48) = false ∨ s.size ≤ 1 := by
          by_cases h1 : s.size ≤ 1
          · exact .inr h1
          · refine .inl ?_
            rw [beq_eq_false_iff_ne]
            intro h
            exact h48 ⟨by omega, by omega⟩
        clear h48 h0 h9
        go_enter Tryz.func22, Tryz.ntmps22
        rcases hne with hne | hone
        · by_cases hone : s.size ≤ 1
          all_goals
            go_wp2
            clear hne
            go_loopw [3, 4] (fun v p w2 => ∃ i n : Nat, v = .int .i64 (n : Int) ∧ p = .int .i64 (i : Int) ∧ i ≤ s.size ∧ n < 1000000000 ∧ Hid (n = M.dval ((bl s).take i)) ∧ Hid (PreAll M.digB (bl s) i) ∧ w2 = w) (fun _ p _ => s.size - (intOf p).toNat)
            case atStart => exact ⟨0, 0, rfl, rfl, by omega, by omega, Lib.hid (by simp [M.dval]), Lib.hid (PreAll.zero _ _), rfl⟩
            case round =>
              obtain ⟨i, n, rfl, rfl, hi, hn, HD, HI, rfl⟩ := hrel
              by_cases hlt : i < s.size
              · have hil : i < (bl s).length := by omega
                obtain ⟨y, hy⟩ : ∃ y, (s[i]).toNat = y := ⟨_, rfl⟩
                have hy255 : y < 256 := by rw [← hy]; exact UInt8.toNat_lt _
                by_cases hd : 48 ≤ y ∧ y ≤ 57
                · obtain ⟨hd1, hd2⟩ := hd
                  have HN := Lib.hid (HI.out.next hil ((digB_iff _).2 (by rw [bl_get _ _ hlt, hy]; exact ⟨hd1, hd2⟩)))
                  have HV := Lib.hid (show 10 * n + (y - 48) = M.dval ((bl s).take (i + 1)) by rw [dval_take hil, ← HD.out, bl_get _ _ hlt, hy])
                  have hbd := dval_bound HN.out (by omega)
                  rw [← HV.out] at hbd
                  go_wp2
                  go_roundw
                  case rel => exact ⟨i + 1, 10 * n + (y - 48), by go_num, by go_num, by omega, by omega, HV, HN, trivial⟩
                  case measure => simp [intOf]; omega
                · have HR := Lib.hid (show lz (M.len9 (bl s)) = -1 from len9_no (.inl (by
                    rw [Bool.eq_false_iff]
                    intro hc
                    have h := ((M.canon_iff _).1 hc).2.1
                    rw [all_false hil (by rw [Bool.eq_false_iff]; intro h2; have := (digB_iff _).1 h2; rw [bl_get _ _ hlt, hy] at this; exact hd this)] at h
                    cases h)))
                  by_cases hd1 : y < 48
                  · go_wp2
                    go_ret
                    exact ⟨by rw [HR.out]; rfl, rfl⟩
                  · have hd2 : 57 < y := by omega
                    have hd3 : 48 ≤ y := by omega
                    go_wp2
                    go_ret
                    exact ⟨by rw [HR.out]; rfl, rfl⟩
              · have HR := Lib.hid (show lz (M.len9 (bl s)) = (n : Int) by
                  have hall := HI.out.whole (by omega)
                  rw [len9_of (by omega), if_pos ((M.canon_iff _).2 ⟨by intro e; rw [e] at hln; simp at hln; omega, hall, HH.out⟩)]
                  rw [List.take_of_length_le (by omega)] at HD
                  rw [HD.out]; rfl)
                go_wp2
                go_ret
                exact ⟨by rw [HR.out]; rfl, rfl⟩
        · go_wp2
          go_loopw [3, 4] (fun v p w2 => ∃ i n : Nat, v = .int .i64 (n : Int) ∧ p = .int .i64 (i : Int) ∧ i ≤ s.size ∧ n < 1000000000 ∧ Hid (n = M.dval ((bl s).take i)) ∧ Hid (PreAll M.digB (bl s) i) ∧ w2 = w) (fun _ p _ => s.size - (intOf p).toNat)
          case atStart => exact ⟨0, 0, rfl, rfl, by omega, by omega, Lib.hid (by simp [M.dval]), Lib.hid (PreAll.zero _ _), rfl⟩
          case round =>
            obtain ⟨i, n, rfl, rfl, hi, hn, HD, HI, rfl⟩ := hrel
            by_cases hlt : i < s.size
            · have hil : i < (bl s).length := by omega
              obtain ⟨y, hy⟩ : ∃ y, (s[i]).toNat = y := ⟨_, rfl⟩
              have hy255 : y < 256 := by rw [← hy]; exact UInt8.toNat_lt _
              by_cases hd : 48 ≤ y ∧ y ≤ 57
              · obtain ⟨hd1, hd2⟩ := hd
                have HN := Lib.hid (HI.out.next hil ((digB_iff _).2 (by rw [bl_get _ _ hlt, hy]; exact ⟨hd1, hd2⟩)))
                have HV := Lib.hid (show 10 * n + (y - 48) = M.dval ((bl s).take (i + 1)) by rw [dval_take hil, ← HD.out, bl_get _ _ hlt, hy])
                have hbd := dval_bound HN.out (by omega)
                rw [← HV.out] at hbd
                go_wp2
                go_roundw
                case rel => exact ⟨i + 1, 10 * n + (y - 48), by go_num, by go_num, by omega, by omega, HV, HN, trivial⟩
                case measure => simp [intOf]; omega
              · have HR := Lib.hid (show lz (M.len9 (bl s)) = -1 from len9_no (.inl (by
                  rw [Bool.eq_false_iff]
                  intro hc
                  have h := ((M.canon_iff _).1 hc).2.1
                  rw [all_false hil (by rw [Bool.eq_false_iff]; intro h2; have := (digB_iff _).1 h2; rw [bl_get _ _ hlt, hy] at this; exact hd this)] at h
                  cases h)))
                by_cases hd1 : y < 48
                · go_wp2
                  go_ret
                  exact ⟨by rw [HR.out]; rfl, rfl⟩
                · have hd2 : 57 < y := by omega
                  have hd3 : 48 ≤ y := by omega
                  go_wp2
                  go_ret
                  exact ⟨by rw [HR.out]; rfl, rfl⟩
            · have HR := Lib.hid (show lz (M.len9 (bl s)) = (n : Int) by
                have hall := HI.out.whole (by omega)
                rw [len9_of (by omega), if_pos ((M.canon_iff _).2 ⟨by intro e; rw [e] at hln; simp at hln; omega, hall, HH.out⟩)]
                rw [List.take_of_length_le (by omega)] at HD
                rw [HD.out]; rfl)
              go_wp2
              go_ret
              exact ⟨by rw [HR.out]; rfl, rfl⟩
end Go.Proofs.YtdbinhbmhkbfeaaGreatDoor
