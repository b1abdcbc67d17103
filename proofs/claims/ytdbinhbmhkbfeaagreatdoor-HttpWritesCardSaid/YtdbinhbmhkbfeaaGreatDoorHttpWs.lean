/-
  The document's Write, by contract.
-/
import Derived.Test.YtdbinhbmhkbfeaaGreatDoorHttpWr
import Derived.Test.YtdbinhbmhkbfeaaGreatDoorHttpDd
import Derived.Test.YtdbinhbmhkbfeaaGreatDoorHttpAq
namespace Go.Proofs.YtdbinhbmhkbfeaaGreatDoor
open Go.RowKit Mem Go.Sort
set_option linter.unusedVariables false
set_option maxRecDepth 100000

set_option maxHeartbeats 2000000 in
theorem RefWrite_any (s : Nat) (b : ByteArray) (la : Bool) (w : World) (h1 : 100 ≤ s) (h2 : s ≤ 999) (hb : b.size ≤ 140737488355328) : Calls Tryz.prog 7 #[.int .i64 (s : Int), .string b, .bool la] w (SaysT (M.writeB s (bl b) la) w) := by
  have HDK := Lib.hid (fun W => dec15_any s W (by omega))
  have HDL := Lib.hid (fun W => dec15_any b.size W (by omega))
  have HWD := Lib.hid (fun W => words_any s (by omega) W)
  unfold SaysT at HDK HDL HWD
  obtain ⟨R, hR⟩ : ∃ R : ByteArray, R = ⟨(Lib.decDigits s).toArray⟩ := ⟨_, rfl⟩
  obtain ⟨U, hU⟩ : ∃ U : ByteArray, U = ⟨(M.wordsOf s).toArray⟩ := ⟨_, rfl⟩
  obtain ⟨V, hV⟩ : ∃ V : ByteArray, V = ⟨(Lib.decDigits b.size).toArray⟩ := ⟨_, rfl⟩
  have hRs : R.size ≤ 3 := by
    have h1 : R.size = (Lib.decDigits s).length := by rw [hR]; rfl
    have := M.dec_len (n := s) (k := 3) (by omega) (by omega); omega
  have hUs : U.size ≤ 31 := by
    have h1 : U.size = (M.wordsOf s).length := by rw [hU]; rfl
    have := words_len s; omega
  have hVs : V.size ≤ 15 := by
    have h1 : V.size = (Lib.decDigits b.size).length := by rw [hV]; rfl
    have := M.dec_len (n := b.size) (k := 15) (by omega) (by omega); omega
  have HFB := Lib.hid (show bl R = Lib.decDigits s ∧ bl U = M.wordsOf s ∧ bl V = Lib.decDigits (bl b).length by rw [hR, hU, hV, bl_len]; exact ⟨rfl, rfl, rfl⟩)
  rw [← hR] at HDK
  rw [← hU] at HWD
  rw [← hV] at HDL
  clear hR hU hV
  have hs1 : ¬ 9223372036854775807 < 9 + R.size := by omega
  have hs2 : ¬ 9223372036854775807 < 9 + R.size + 1 := by omega
  have hs3 : ¬ 9223372036854775807 < 9 + R.size + 1 + U.size := by omega
  have hs4 : ¬ 9223372036854775807 < 9 + R.size + 1 + U.size + 50 := by omega
  have hs5 : ¬ 9223372036854775807 < 9 + R.size + 1 + U.size + 50 + V.size := by omega
  have hs6 : ¬ 9223372036854775807 < 9 + R.size + 1 + U.size + 50 + V.size + 2 := by omega
  cases la with
  | true =>
    have hs7 : ¬ 9223372036854775807 < 9 + R.size + 1 + U.size + 50 + V.size + 2 + 19 := by omega
    have hs8 : ¬ 9223372036854775807 < 9 + R.size + 1 + U.size + 50 + V.size + 2 + 19 + 2 := by omega
    have hs9 : ¬ 9223372036854775807 < 9 + R.size + 1 + U.size + 50 + V.size + 2 + 19 + 2 + b.size := by omega
    go_enter Tryz.func7, Tryz.ntmps7
    go_upto_region 3 with (fail)
    go_wp2_with fail
    refine (HDK.out _).mono ?_
    rintro e w2 ⟨rfl, hb⟩
    have HB2 := Lib.hid hb
    clear hb
    go_wp2_with fail
    refine (HWD.out w2).mono ?_
    rintro e w3 ⟨rfl, hb⟩
    have HB3 := Lib.hid (HB2.out.trans (hb.mono HB2.out.size))
    clear hb
    go_wp2_with fail
    refine (HDL.out w3).mono ?_
    rintro e w4 ⟨rfl, hb⟩
    have HB4 := Lib.hid (HB3.out.trans (hb.mono HB3.out.size))
    clear hb
    go_wp2
    go_ret
    refine ⟨?_, HB4.out⟩
    refine congrArg (fun b => Ending.returned (.string b)) (bl_inj ?_)
    obtain ⟨e1, e2, e3⟩ := HFB.out
    simp only [bl_cat, e1, e2, e3, bl_mk]
    unfold M.writeB M.frontB M.v9 M.ctL M.tailB M.closeB
    simp [bl]
  | false =>
    have hs8 : ¬ 9223372036854775807 < 9 + R.size + 1 + U.size + 50 + V.size + 2 + 2 := by omega
    have hs9 : ¬ 9223372036854775807 < 9 + R.size + 1 + U.size + 50 + V.size + 2 + 2 + b.size := by omega
    go_enter Tryz.func7, Tryz.ntmps7
    go_upto_region 3 with (fail)
    go_wp2_with fail
    refine (HDK.out _).mono ?_
    rintro e w2 ⟨rfl, hb⟩
    have HB2 := Lib.hid hb
    clear hb
    go_wp2_with fail
    refine (HWD.out w2).mono ?_
    rintro e w3 ⟨rfl, hb⟩
    have HB3 := Lib.hid (HB2.out.trans (hb.mono HB2.out.size))
    clear hb
    go_wp2_with fail
    refine (HDL.out w3).mono ?_
    rintro e w4 ⟨rfl, hb⟩
    have HB4 := Lib.hid (HB3.out.trans (hb.mono HB3.out.size))
    clear hb
    go_wp2
    go_ret
    refine ⟨?_, HB4.out⟩
    refine congrArg (fun b => Ending.returned (.string b)) (bl_inj ?_)
    obtain ⟨e1, e2, e3⟩ := HFB.out
    simp only [bl_cat, e1, e2, e3, bl_mk]
    unfold M.writeB M.frontB M.v9 M.ctL M.tailB M.closeB
    simp [bl]
end Go.Proofs.YtdbinhbmhkbfeaaGreatDoor
