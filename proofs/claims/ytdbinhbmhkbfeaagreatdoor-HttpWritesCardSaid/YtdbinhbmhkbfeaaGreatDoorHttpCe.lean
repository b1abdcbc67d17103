/-
  strings.Cut at an end of line that is near: a text as long as a string can be.
-/
import Derived.Test.YtdbinhbmhkbfeaaGreatDoorHttpAr
namespace Go.Proofs.YtdbinhbmhkbfeaaGreatDoor
open Go.RowKit Mem Go.Sort
set_option linter.unusedVariables false
set_option maxRecDepth 100000

/-- where the first 13 is -/
theorem M.ib_near (L r : List UInt8) (h : (13 : UInt8) ∉ L) : Lib.indexByte (L ++ 13 :: r) 13 = (L.length : Int) := by
  induction L with
  | nil => simp [Lib.indexByte]
  | cons a L ih =>
    have ha : (a == 13) = false := by rw [beq_eq_false_iff_ne]; intro e; exact h (by rw [e]; exact List.mem_cons_self ..)
    have i2 := ih (fun hm => h (List.mem_cons_of_mem _ hm))
    have hn : (((L.length : Int)) == -1) = false := by rw [beq_eq_false_iff_ne]; omega
    simp only [List.cons_append, Lib.indexByte, ha, i2, hn, Bool.false_eq_true, if_false, List.length_cons]
    omega

set_option maxHeartbeats 4000000 in
theorem index_near (s : ByteArray) (x : UInt8) (L r : List UInt8) (w : World) (m : Int) (hm : w.cell? ⟨0, 0, none⟩ = some (.int .i64 m)) (hs : bl s = (x :: L) ++ 13 :: 10 :: r) (h13 : (13 : UInt8) ∉ x :: L) (h64 : 64 < s.size) (hL : L.length ≤ 20) (hz : s.size ≤ 9223372036854775800) : Calls Tryz.prog 38 #[.string s, .string ⟨#[13, 10]⟩] w fun e w' => e = .returned (.int .i64 ((L.length + 1 : Nat) : Int)) ∧ w' = w := by
  obtain ⟨Z, hZ⟩ : ∃ Z : ByteArray, Z = ⟨#[13, 10]⟩ := ⟨_, rfl⟩
  have hZs : Z.size = 2 := by rw [hZ]; rfl
  have hZ0 : (Z[0]'(by omega)).toNat = 13 := by subst hZ; rfl
  have hZ1 : (Z[1]'(by omega)).toNat = 10 := by subst hZ; rfl
  have hZb : bl Z = [13, 10] := by rw [hZ]
  rw [← hZ]
  clear hZ
  have hne2 : (Z.toList == s.toList) = false := by rw [str_eq2, hZb]; exact decide_eq_false (fun e => by have := congrArg List.length e; rw [bl_len] at this; simp at this; omega)
  obtain ⟨T, hT⟩ : ∃ T : Nat, (s.size : Int) - 2 + 1 = (T : Int) := ⟨s.size - 1, by omega⟩
  have hT1 : T ≤ s.size := by omega
  have hT2 : 1 ≤ T := by omega
  have hT3 : 0 < T := by omega
  have hlen : (bl s).length = s.size := bl_len s
  obtain ⟨d, hd⟩ : ∃ d, d = L.length := ⟨_, rfl⟩
  have hib : Lib.indexByte (bl (s.extract 1 T)) 13 = (d : Int) := by
    rw [bl_cut, List.drop_take, hs, List.cons_append, List.drop_succ_cons, List.drop_zero, List.take_append, List.take_of_length_le (by omega)]
    obtain ⟨q, hq⟩ : ∃ q, T - 1 - L.length = q + 1 := ⟨T - 1 - L.length - 1, by omega⟩
    rw [hq, List.take_succ_cons, M.ib_near _ _ (fun hm => h13 (List.mem_cons_of_mem _ hm)), hd]
  have HIB := Lib.hid (fun W => Tryz.stringslite_IndexByte (s.extract 1 T) 13 W)
  change Hid (∀ W, Calls Tryz.prog 41 #[.string (s.extract 1 T), .int .u8 13] W fun e w' => e = .returned (.int .i64 (Lib.indexByte (bl (s.extract 1 T)) 13)) ∧ w' = W) at HIB
  rw [hib] at HIB
  have hp0 : 0 < s.size := by omega
  obtain ⟨y, hy⟩ : ∃ y, (s[0]).toNat = y := ⟨_, rfl⟩
  have hy13 : ¬ y = 13 := fun e => h13 (by
    have h0 : s[0] = x := by
      have : (bl s)[0]'(by omega) = x := by simp only [hs]; rfl
      exact this
    rw [show x = 13 from UInt8.toNat_inj.1 (by rw [← h0, hy, e]; rfl)]
    exact List.mem_cons_self ..)
  have hp2 : d + 1 + 1 < s.size := by omega
  have h10 : (s[d + 1 + 1]).toNat = 10 := by
    have h0 : s[d + 1 + 1] = 10 := by
      have : (bl s)[d + 1 + 1]? = some 10 := by rw [hs, hd, List.getElem?_append_right (by simp)]; simp
      have h1 : (bl s)[d + 1 + 1]? = some s[d + 1 + 1] := by rw [List.getElem?_eq_getElem (by omega)]; rfl
      rw [h1] at this
      injection this
    rw [h0]; rfl
  have hq : ((s.extract (d + 1) (d + 1 + 2)).toList == Z.toList) = true := by
    rw [str_eq2, hZb, bl_cut, List.drop_take, Nat.add_sub_cancel_left, hs, hd]
    refine decide_eq_true ?_
    rw [List.drop_left' (by simp)]
    rfl
  have hd3 : d + 1 + 2 ≤ s.size := by omega
  have hdL : ((L.length + 1 : Nat) : Int) = (d : Int) + 1 := by omega
  rw [hdL]
  have hd20 : d ≤ 20 := by omega
  clear hs h13 hlen hd hib hZb hdL hL
  go_enter Tryz.func38, Tryz.ntmps38
  go_wp2_with fail
  all_goals
    go_loopw [8] (fun p w2 => p = .int .i64 0 ∧ w2 = w) (fun _ _ => 0)
    case atStart => exact ⟨rfl, rfl⟩
    case round =>
      obtain ⟨rfl, rfl⟩ := hrel
      go_wp2_with fail
      refine (HIB.out _).mono ?_
      rintro e w1 ⟨rfl, rfl⟩
      go_wp2
      go_ret
      exact ⟨rfl, rfl⟩
end Go.Proofs.YtdbinhbmhkbfeaaGreatDoor
