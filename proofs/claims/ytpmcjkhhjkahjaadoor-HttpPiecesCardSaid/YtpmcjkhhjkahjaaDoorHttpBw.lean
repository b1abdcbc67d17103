/-
  The law HttpBodies, by the contracts.
-/
import Derived.Test.YtpmcjkhhjkahjaaDoorHttpLw
import Derived.Test.YtpmcjkhhjkahjaaDoorHttpDc
import Derived.Test.YtpmcjkhhjkahjaaDoorHttpBd
namespace Go.Proofs.YtpmcjkhhjkahjaaDoor
open Go.RowKit Mem Go.Sort
set_option linter.unusedVariables false
set_option maxRecDepth 100000

theorem bodies_head (k : Nat) (R : ByteArray) (hR : bl R = Lib.decDigits k) : bl ((⟨#[80, 79, 83, 84, 32, 47, 100, 111, 99, 115, 32, 72, 84, 84, 80, 47, 49, 46, 49, 13, 10, 72, 111, 115, 116, 58, 32, 120, 13, 10, 67, 111, 110, 116, 101, 110, 116, 45, 76, 101, 110, 103, 116, 104, 58, 32]⟩ ++ R) ++ ⟨#[13, 10, 13, 10]⟩) = M.rqHead 120 k false := by
  rw [bl_cat, bl_cat, hR, List.append_assoc]
  show _ = M.rq0 ++ 13 :: 10 :: (M.rq1 120 ++ 13 :: 10 :: (M.rq2 k ++ 13 :: 10 :: M.rqEnd false))
  unfold M.rq2
  rw [List.append_assoc]
  rfl

set_option maxHeartbeats 4000000 in
theorem httpBodies_any (n : Nat) (E : ByteArray) (hn : n < 65536) (w : World) (hV : Vars w) :
    Calls Tryd.prog 5 #[.int .u16 (n : Int), .string E] w fun e w' => e = .returned (.bool true) ∧ Below w.heap.size w w' := by
  obtain ⟨k, hk⟩ : ∃ k, k = n % 10000 := ⟨_, rfl⟩
  have HKI := Lib.hid (show (n : Int) % 10000 = (k : Int) by omega)
  have hk4 : k < 10000 := by omega
  have HA := Lib.hid (fun w1 (hb : Below w.heap.size w w1) => awake_any w1 (hV.below hb))
  have HR := Lib.hid (fun (s : ByteArray) w1 (hb : Below w.heap.size w w1) (hs : s.size ≤ 281474976710656) => Read_any s w1 hs (hV.below hb))
  have HDK := Lib.hid (fun W => dec_any k W (by omega))
  have HRQ := Lib.hid (fun r => M.rq_read 120 (by decide) (by decide) k (by omega) false r)
  have HLN := Lib.hid (M.rqHead_len 120 k false)
  have HDL := Lib.hid (M.dec_len (n := k) (k := 4) (by omega) (by omega))
  clear hV hk
  unfold SaysT at HDK
  by_cases hE : 1000 < E.size
  · go_enter Tryd.func5, Tryd.ntmps5
    go_wp2_with fail
    refine (HA.out w (Below.refl _ _)).mono ?_
    rintro e w1 ⟨rfl, hb1⟩
    have HB1 := Lib.hid hb1
    clear hb1
    go_wp2_with fail
    refine (HA.out w1 HB1.out).mono ?_
    rintro e w2 ⟨rfl, hb2⟩
    have HB2 := Lib.hid (HB1.out.trans (hb2.mono HB1.out.size))
    clear hb2
    go_wp2
    go_ret
    exact ⟨rfl, HB2.out⟩
  · obtain ⟨R, hR⟩ : ∃ R : ByteArray, R = ⟨(Lib.decDigits k).toArray⟩ := ⟨_, rfl⟩
    have HRL := Lib.hid (show bl R = Lib.decDigits k by rw [hR])
    rw [← hR] at HDK
    clear hR
    have hRs : R.size ≤ 4 := by rw [← bl_len, HRL.out]; exact HDL.out
    have hs1 : ¬ 9223372036854775807 < 46 + R.size := by omega
    have hs2 : ¬ 9223372036854775807 < 46 + R.size + 4 := by omega
    obtain ⟨H, hH⟩ : ∃ H : ByteArray, H = ((⟨#[80, 79, 83, 84, 32, 47, 100, 111, 99, 115, 32, 72, 84, 84, 80, 47, 49, 46, 49, 13, 10, 72, 111, 115, 116, 58, 32, 120, 13, 10, 67, 111, 110, 116, 101, 110, 116, 45, 76, 101, 110, 103, 116, 104, 58, 32]⟩ ++ R) ++ ⟨#[13, 10, 13, 10]⟩) := ⟨_, rfl⟩
    have HHB := Lib.hid (show bl H = M.rqHead 120 k false by rw [hH]; exact bodies_head k R HRL.out)
    have HHE := Lib.hid hH.symm
    clear hH
    go_enter Tryd.func5, Tryd.ntmps5
    go_wp2_with fail
    refine (HA.out w (Below.refl _ _)).mono ?_
    rintro e w1 ⟨rfl, hb1⟩
    have HB1 := Lib.hid hb1
    clear hb1
    go_upto_region 4 with (fail)
    rw [HKI.out]
    go_wp2_with fail
    refine (HDK.out w1).mono ?_
    rintro e w2 ⟨rfl, hb2⟩
    have HB2 := Lib.hid (HB1.out.trans (hb2.mono HB1.out.size))
    clear hb2
    go_upto_region 5 with (fail)
    rw [HHE.out]
    clear hs1 hs2
    have HHS := Lib.hid (show H.size = (M.rqHead 120 k false).length by rw [← bl_len, HHB.out])
    have hHb : H.size ≤ 60 := by have := HHS.out; have := HLN.out; have := HDL.out; simp at *; omega
    have hHp : 0 < H.size := by have := HHS.out; have := HLN.out; simp at *; omega
    have HR1 := Lib.hid (HR.out H w2 HB2.out (by omega))
    rw [HHB.out] at HR1
    have HQ1 := Lib.hid (HRQ.out [])
    rw [List.append_nil] at HQ1
    unfold TellsR at HR1
    obtain ⟨⟨⟨m, pa, body, cl⟩, mm, st⟩, hrr⟩ : ∃ r, r = M.read (M.rqHead 120 k false) := ⟨_, rfl⟩
    rw [← hrr] at HR1 HQ1
    clear hrr
    simp only at HR1 HQ1
    have hcase : (8192 < k ∧ mm = 0 ∧ st = 413) ∨ (k ≤ 8192 ∧ 0 < k ∧ mm = 0 ∧ st = 0) ∨ (k ≤ 8192 ∧ k = 0 ∧ mm = H.size ∧ st = 0) := by
      have h := HQ1.out
      by_cases h8 : 8192 < k
      · rw [if_pos h8] at h; injection h with _ h; injection h with h1 h2; exact .inl ⟨h8, h1, h2⟩
      · rw [if_neg h8] at h
        by_cases h0 : 0 < k
        · rw [if_pos (by simpa using h0)] at h; injection h with _ h; injection h with h1 h2; exact .inr (.inl ⟨by omega, h0, h1, h2⟩)
        · rw [if_neg (by simpa using h0)] at h; injection h with _ h; injection h with h1 h2; exact .inr (.inr ⟨by omega, by omega, by rw [h1, HHS.out]; omega, h2⟩)
    clear HQ1
    rcases hcase with ⟨h8, rfl, rfl⟩ | hcase
    · go_wp2_with fail
      refine HR1.out.mono ?_
      rintro e w3 ⟨rfl, hb3⟩
      have HB3 := Lib.hid (HB2.out.trans (hb3.mono HB2.out.size))
      clear hb3
      simp only [rqv]
      go_wp2
      go_ret
      exact ⟨by first | rfl | (simp; omega), HB3.out.alloc HB3.out.size _⟩
    · have hk8 : k ≤ 8192 := by rcases hcase with h | h <;> exact h.1
      have hst : st = 0 := by rcases hcase with h | h <;> exact h.2.2.2
      subst hst
      have hmm : (0 < k ∧ mm = 0) ∨ (k = 0 ∧ mm = H.size) := by rcases hcase with h | h; exact .inl ⟨h.2.1, h.2.2.1⟩; exact .inr ⟨h.2.1, h.2.2.1⟩
      clear hcase
      have hmk := run_make_row' (P := Tryd.prog) 30 5 (.int .u8 0) 1 Tryd.underlying30 Tryd.infoU8 rfl .i64 .i64 k (by omega) (by omega)
      go_wp2_with fail
      refine HR1.out.mono ?_
      rintro e w3 ⟨rfl, hb3⟩
      have HB3 := Lib.hid (HB2.out.trans (hb3.mono HB2.out.size))
      clear hb3
      simp only [rqv]
      obtain ⟨w4, hw4⟩ : ∃ w4, w4 = w3.alloc (.cells #[.string ⟨m.toArray⟩, .string ⟨pa.toArray⟩, .string ⟨body.toArray⟩, .bool cl] 26) := ⟨_, rfl⟩
      have HB4 := Lib.hid (show Below w.heap.size w w4 by rw [hw4]; exact HB3.out.alloc HB3.out.size _)
      have HW4 := Lib.hid hw4.symm
      clear hw4
      go_upto_region 6 with (fail)
      rw [HW4.out]
      obtain ⟨A5, c5, e5, hr5⟩ := (Own.zeros w4 k (by omega)).open_
      injection e5 with e5a e5b e5c
      subst e5a e5c
      obtain ⟨Z, hZ⟩ : ∃ Z : ByteArray, Z = ⟨(List.replicate k (0 : UInt8)).toArray⟩ := ⟨_, rfl⟩
      have hcv := run_str (P := Tryd.prog) _ _ 30 9 5 Tryd.underlying30 Tryd.underlying5 Tryd.underlying9 _ _ _ _ hr5
      rw [← hZ, show (List.replicate k (0 : UInt8)).length = k by simp] at hcv
      have HZ := Lib.hid hZ
      have hZs : Z.size = k := by rw [hZ]; simp [ByteArray.size]
      have HBZ := Lib.hid (show bl Z = List.replicate k 0 by rw [hZ])
      clear hZ hr5 e5b
      have HB5 := Lib.hid (show Below w.heap.size w (w4.alloc (.cells (madeCells #[.int .u8 0] k) 5)) from HB4.out.alloc HB4.out.size _)
      have hs1 : ¬ 9223372036854775807 < H.size + Z.size := by omega
      have hs2 : ¬ 9223372036854775807 < H.size + Z.size + E.size := by omega
      have hs1' : ¬ 9223372036854775807 < H.size + k := by omega
      have hs2' : ¬ 9223372036854775807 < H.size + k + E.size := by omega
      have HR2 := Lib.hid (HR.out ((H ++ Z) ++ E) (w4.alloc (.cells (madeCells #[.int .u8 0] k) 5)) HB5.out (by rw [ByteArray.size_append, ByteArray.size_append]; omega))
      rw [bl_cat, bl_cat, HHB.out, HBZ.out, List.append_assoc, HRQ.out, if_neg (by omega), if_neg (by simp), List.take_left' (by simp), ← HHS.out] at HR2
      unfold TellsR at HR2
      simp only [rqv] at HR2
      rw [← HZ.out] at HR2
      have hww : IntKind.i64.wrap ((H.size : Int) + (k : Int)) = (H.size : Int) + (k : Int) := by rw [IntKind.wrap_i64]; omega
      have hzz : (Z.toList == Z.toList) = true := by simp
      rcases hmm with ⟨hk0, rfl⟩ | ⟨hk0, rfl⟩
      · have hk0I : (0 : Int) < (k : Int) := by omega
        have hkne : ((k : Int) == 0) = false := by simp; omega
        have hkn2 : ¬ k = 0 := by omega
        go_wp2_with fail
        refine HR2.out.mono ?_
        rintro e w6 ⟨rfl, hb6⟩
        have HB6 := Lib.hid (HB5.out.trans (hb6.mono HB5.out.size))
        clear hb6 hcv hmk
        go_wp2
        go_ret
        exact ⟨by first | rfl | simp, HB6.out.alloc HB6.out.size _⟩
      · have hHI : (0 : Int) < (H.size : Int) := by omega
        have hke : ((k : Int) == 0) = true := by simp; omega
        have HK0 := Lib.hid hk0
        clear hk0
        go_wp2_with fail
        refine HR2.out.mono ?_
        rintro e w6 ⟨rfl, hb6⟩
        have HB6 := Lib.hid (HB5.out.trans (hb6.mono HB5.out.size))
        clear hb6 hcv hmk
        go_wp2
        go_ret
        exact ⟨by first | rfl | simp, HB6.out.alloc HB6.out.size _⟩
end Go.Proofs.YtpmcjkhhjkahjaaDoor
