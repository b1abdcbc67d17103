/-
  http.Write, by contract.
-/
import Derived.Test.YtdbinhbmhkbfeaaGreatDoorHttpAo
namespace Go.Proofs.YtdbinhbmhkbfeaaGreatDoor
open Go.RowKit Mem Go.Sort
set_option linter.unusedVariables false
set_option maxRecDepth 100000

/-- an answer, whole -/
def M.writeB (s : Nat) (b : List UInt8) (la : Bool) : List UInt8 := frontB s ++ (Lib.decDigits b.length ++ (tailB la ++ b))

theorem Write_not (z : Int) (b : ByteArray) (la : Bool) (w : World) (hz : ¬ (100 ≤ z ∧ z ≤ 999)) : Calls Tryz.prog 6 #[.int .i64 z, .string b, .bool la] w fun e w' => e = .returned (.tuple #[.string ⟨#[]⟩, .int .i64 1]) ∧ w' = w := by
  have HIS := isState_any z w
  rw [show decide (100 ≤ z ∧ z ≤ 999) = false from decide_eq_false hz] at HIS
  have HIS := Lib.hid HIS
  clear hz
  go_enter Tryz.func6, Tryz.ntmps6
  go_wp2_with fail
  refine HIS.out.mono ?_
  rintro e w1 ⟨rfl, rfl⟩
  go_wp2
  go_ret2
  exact ⟨rfl, rfl⟩

set_option maxHeartbeats 2000000 in
theorem Write_any (s : Nat) (b : ByteArray) (la : Bool) (w : World) (h1 : 100 ≤ s) (h2 : s ≤ 999) (hb : b.size ≤ 140737488355328) (hV : Vars w) : Calls Tryz.prog 6 #[.int .i64 (s : Int), .string b, .bool la] w fun e w' => e = .returned (.tuple #[.string ⟨(M.writeB s (bl b) la).toArray⟩, .int .i64 0]) ∧ Below w.heap.size w w' := by
  have his := fun W => isState_any (s : Int) W
  rw [show decide (100 ≤ (s : Int) ∧ (s : Int) ≤ 999) = true from decide_eq_true (by omega)] at his
  have HIS := Lib.hid his
  have HF := Lib.hid (fun W (hb : Below w.heap.size w W) => front_any s (by omega) W (hV.below hb))
  have HIT := Lib.hid (fun W (hbw : Below w.heap.size w W) => (Tryz.strconv_Itoa (b.size : Int) (by omega) (by omega) W (hV.below hbw).pow))
  rw [M.itoa_nat] at HIT
  unfold SaysT at HF
  obtain ⟨R, hR⟩ : ∃ R : ByteArray, R = ⟨(Lib.decDigits b.size).toArray⟩ := ⟨_, rfl⟩
  obtain ⟨F, hF⟩ : ∃ F : ByteArray, F = ⟨(M.frontB s).toArray⟩ := ⟨_, rfl⟩
  have hRs : R.size ≤ 15 := by
    have h1 : R.size = (Lib.decDigits b.size).length := by rw [hR]; rfl
    have := M.dec_len (n := b.size) (k := 15) (by omega) (by omega); omega
  have hFs : F.size ≤ 100 := by
    have h1 : F.size = (M.frontB s).length := by rw [hF]; rfl
    have h3 := words_len s
    have h4 := M.dec_len (n := s) (k := 3) (by omega) (by omega)
    rw [h1]; unfold M.frontB M.v9 M.ctL; simp; omega
  have HFB := Lib.hid (show bl F = M.frontB s ∧ bl R = Lib.decDigits (bl b).length by rw [hF, hR, bl_len]; exact ⟨rfl, rfl⟩)
  rw [← hR] at HIT
  rw [← hF] at HF
  clear hR hF his hV
  have hs1 : ¬ 9223372036854775807 < F.size + R.size := by omega
  have hs2 : ¬ 9223372036854775807 < F.size + R.size + 2 := by omega
  cases la with
  | true =>
    have hs3 : ¬ 9223372036854775807 < F.size + R.size + 2 + 19 := by omega
    have hs4 : ¬ 9223372036854775807 < F.size + R.size + 2 + 19 + 2 := by omega
    have hs5 : ¬ 9223372036854775807 < F.size + R.size + 2 + 19 + 2 + b.size := by omega
    go_enter Tryz.func6, Tryz.ntmps6
    go_wp2_with fail
    refine (HIS.out w).mono ?_
    rintro e w1 ⟨rfl, rfl⟩
    go_wp2_with fail
    refine (HF.out w1 (Below.refl _ _)).mono ?_
    rintro e w2 ⟨rfl, hb⟩
    have HB2 := Lib.hid hb
    clear hb
    go_wp2_with fail
    refine (HIT.out w2 HB2.out).mono ?_
    rintro e w3 ⟨rfl, k, os, hw⟩
    have HB3 := Lib.hid (show Below w1.heap.size w1 w3 by rw [hw]; exact HB2.out.trans ((below_grow w2 k os).mono HB2.out.size))
    clear hw
    go_wp2
    go_ret2
    refine ⟨?_, HB3.out⟩
    refine congrArg (fun b => Ending.returned (.tuple #[.string b, .int .i64 0])) (bl_inj ?_)
    obtain ⟨e1, e2⟩ := HFB.out
    simp only [bl_cat, e1, e2, bl_mk]
    unfold M.writeB M.tailB M.closeB
    simp [bl]
  | false =>
    have hs4 : ¬ 9223372036854775807 < F.size + R.size + 2 + 2 := by omega
    have hs5 : ¬ 9223372036854775807 < F.size + R.size + 2 + 2 + b.size := by omega
    go_enter Tryz.func6, Tryz.ntmps6
    go_wp2_with fail
    refine (HIS.out w).mono ?_
    rintro e w1 ⟨rfl, rfl⟩
    go_wp2_with fail
    refine (HF.out w1 (Below.refl _ _)).mono ?_
    rintro e w2 ⟨rfl, hb⟩
    have HB2 := Lib.hid hb
    clear hb
    go_wp2_with fail
    refine (HIT.out w2 HB2.out).mono ?_
    rintro e w3 ⟨rfl, k, os, hw⟩
    have HB3 := Lib.hid (show Below w1.heap.size w1 w3 by rw [hw]; exact HB2.out.trans ((below_grow w2 k os).mono HB2.out.size))
    clear hw
    go_wp2
    go_ret2
    refine ⟨?_, HB3.out⟩
    refine congrArg (fun b => Ending.returned (.tuple #[.string b, .int .i64 0])) (bl_inj ?_)
    obtain ⟨e1, e2⟩ := HFB.out
    simp only [bl_cat, e1, e2, bl_mk]
    unfold M.writeB M.tailB M.closeB
    simp [bl]
end Go.Proofs.YtdbinhbmhkbfeaaGreatDoor
