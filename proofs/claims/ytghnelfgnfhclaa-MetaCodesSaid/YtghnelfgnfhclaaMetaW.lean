/-
  The law MetaCodes, by the contracts.
-/
import Derived.Test.YtghnelfgnfhclaaMetaV
import Derived.Test.YtghnelfgnfhclaaMetaK
import Derived.Test.YtghnelfgnfhclaaArgsM
import Derived.Deep.RegionHeld
namespace Go.Proofs.Ytghnelfgnfhclaa
open Go.RowKit Mem Go.ChangeShapes
set_option linter.unusedVariables false
set_option maxRecDepth 100000

theorem told_ok (l : List UInt8) : CmdOk (M.told l) := by
  unfold M.told
  refine ⟨UInt8.toNat_lt _, ?_, ?_, ?_⟩
  · have := UInt8.toNat_lt (l[1]?.getD 0); unfold I64; simp only; omega
  · have := UInt8.toNat_lt (l[2]?.getD 0); unfold I64; simp only; omega
  · show (M.rdAt l 3).1 < _
    rcases M.rdAt_err l 3 with h | ⟨_, h⟩ | ⟨_, h⟩
    · have := (M.rdAt_ok h); obtain ⟨a, r, _, _, h3, _⟩ := this; simpa using h3
    · rw [h]; simp
    · rw [h]; simp
section
variable {H : Type} {enc : TypeId × Value → H} {w : World} {base : Nat} {held : Bool}
/-- a lone command, as an argument -/
theorem open_cmd {r : Reach} {b0 : Nat} {v : Value} {d : DataW H} {p : List MemPlace} (hv : Value.okWide Try.prog w r b0 39 v) (h : DataW.Trod enc Try.prog w base (fun _ => true) held 39 v d p) (hw : Light Try.prog 39 d) :
    ∃ c : M.C, v = cval c ∧ CmdOk c := by
  obtain ⟨f0, f1, f2, f3, hs, _⟩ := Try.cmdStruct
  obtain ⟨cs, rfl, hsz⟩ := Go.WideShapes.okWide_struct hs hv
  obtain ⟨fuel, hf⟩ := h
  obtain ⟨csl⟩ := cs
  simp only [Value.cells] at hf
  obtain ⟨c, hc, hok⟩ := cmd_cells hf hw
  have hc' : csl = ccells c := by simpa using hc
  exact ⟨c, by rw [hc']; rfl, hok⟩
end
def CvS (w : World) (v : Value) (T : ByteArray) (W : World) : Prop := (convert 45 9 v).run Try.prog W = .ok (.string T) W ∧ Below w.heap.size w W

set_option maxHeartbeats 8000000 in
theorem metaCodes_any (c : M.C) (A : Option Addr) (n cp : Nat) (l : List UInt8) (w : World) (hc : CmdOk c) (h : Rd w w.heap.size A n cp l) :
    Calls Try.prog 6 #[cval c, .slice A n cp] w (SaysB true w) := by
  have HAW := Lib.hid (fun W => awake14_any W)
  have HEN := Lib.hid (fun W => encode_any c W hc)
  have HRE := Lib.hid (fun W => refEncode_any c W hc)
  have HD1 := Lib.hid (fun (hok : M.okc c = true) (A : Option Addr) (n k : Nat) (W : World) (hr : Rd W W.heap.size A n k (M.bytesOf c)) => show Calls Try.prog 21 #[.slice A n k] W (fun e w' => e = .returned (.tuple #[cval c, .int .i64 0]) ∧ Below W.heap.size W w') by
    have h1 := decode_any A n k _ W hr
    have h2 := M.told_cmd hok hc.rev
    have h3 : M.bytesOf c = M.cmd c := by unfold M.bytesOf; rw [if_pos hok]
    unfold DecOf at h1
    rw [h3, h2.1, h2.2] at h1
    exact h1)
  have HD2 := Lib.hid (fun (hok : M.isCmd l = true) (A : Option Addr) (n k : Nat) (W : World) (hr : Rd W W.heap.size A n k l) => show Calls Try.prog 21 #[.slice A n k] W (fun e w' => e = .returned (.tuple #[cval (M.told l), .int .i64 0]) ∧ Below W.heap.size W w') by
    have h1 := decode_any A n k _ W hr
    unfold DecOf at h1
    rw [hok] at h1
    exact h1)
  have HD3 := Lib.hid (fun (hok : M.isCmd l = false) (A : Option Addr) (n k : Nat) (W : World) (hr : Rd W W.heap.size A n k l) => show Calls Try.prog 21 #[.slice A n k] W (fun e w' => e = .returned (.tuple #[czero, .int .i64 3]) ∧ Below W.heap.size W w') by
    have h1 := decode_any A n k _ W hr
    unfold DecOf at h1
    rw [hok] at h1
    exact h1)
  have HTO := Lib.hid (fun W => refEncode_any (M.told l) W (told_ok l))
  have HBY := Lib.hid (show M.bytesOf c = if M.okc c = true then M.cmd c else [] from rfl)
  have HBT := Lib.hid (show M.isCmd l = true → M.bytesOf (M.told l) = l from fun hok => by
    unfold M.bytesOf
    rw [if_pos (by unfold M.isCmd at hok; simp only [Bool.and_eq_true] at hok; exact hok.2.2.2), M.cmd_told hok])
  have HCL := Lib.hid (M.cmd_len c)
  have HST := Lib.hid (fun (W : World) (B : Nat) (A : Option Addr) (n k : Nat) (r : List UInt8) (hr : Rd W B A n k r) => run_str (P := Try.prog) W B 45 9 5 Try.underlying45 Try.underlying5 Try.underlying9 A n k r hr)
  have HR := Lib.hid h
  have hcap := h.cap
  have hmax := h.max
  clear h
  unfold EncOf at HEN
  obtain ⟨E, hE⟩ : ∃ E : Int, E = if M.okc c = true then 0 else 3 := ⟨_, rfl⟩
  rw [← hE] at HEN
  have HE := Lib.hid hE
  clear hE
  generalize M.okc c = ok at *
  generalize hM1 : M.bytesOf c = bs at *
  generalize hM2 : M.cmd c = cm at *
  generalize M.isCmd l = is at *
  generalize M.told l = tl at *
  clear hM1 hM2
  obtain ⟨tk, tsh, tnd, trv⟩ := tl
  obtain ⟨kind, shard, node, rev⟩ := c
  simp only [cval, czero] at HEN HRE HD1 HD2 HD3 HTO ⊢
  clear hc
  obtain ⟨w1, hw1⟩ : ∃ w1, w1 = w.alloc (.cells #[.int .u8 (kind : Int), .int .i64 shard, .int .i64 node, .int .u64 (rev : Int)] 39) := ⟨_, rfl⟩
  have hbx : w1.heap[w.heap.size]? = some (.cells #[.int .u8 (kind : Int), .int .i64 shard, .int .i64 node, .int .u64 (rev : Int)] 39 (0, 0)) := by rw [hw1]; exact heapNew (w := w) _
  have HB := Lib.hid (show Below w.heap.size w w1 by rw [hw1]; exact bel_alloc' w _)
  have HBX := Lib.hid hbx
  have HW1 := Lib.hid hw1.symm
  clear hw1 hbx
  go_enter Try.func6, Try.ntmps6
  go_upto_region 1 with (fail)
  rw [HW1.out]
  go_wp2_with fail
  refine (HAW.out w1).mono ?_
  rintro e w2 ⟨rfl, hb2⟩
  have HB2 := Lib.hid (HB.out.trans (hb2.mono HB.out.size))
  have HBX2 := Lib.hid ((hb2.block w.heap.size (heapLt HBX.out)).trans HBX.out)
  clear hb2
  have c0 : w2.cell? ⟨w.heap.size, 0, none⟩ = some (.int .u8 (kind : Int)) := cellAt 0 HBX2.out
  have c1 : w2.cell? ⟨w.heap.size, 1, none⟩ = some (.int .i64 shard) := cellAt 1 HBX2.out
  have c2 : w2.cell? ⟨w.heap.size, 2, none⟩ = some (.int .i64 node) := cellAt 2 HBX2.out
  have c3 : w2.cell? ⟨w.heap.size, 3, none⟩ = some (.int .u64 (rev : Int)) := cellAt 3 HBX2.out
  go_wp2_with fail
  refine (HEN.out w2).mono ?_
  rintro e w3 ⟨v3, rfl, ho3, hb3⟩
  have HB3 := Lib.hid (HB2.out.trans (hb3.mono HB2.out.size))
  have HBX3 := Lib.hid ((hb3.block w.heap.size (heapLt HBX2.out)).trans HBX2.out)
  obtain ⟨A3, k3, rfl, hr3⟩ := ho3.open_
  have HR3 := Lib.hid hr3
  clear hb3 c0 c1 c2 c3 ho3 hr3
  have c0 : w3.cell? ⟨w.heap.size, 0, none⟩ = some (.int .u8 (kind : Int)) := cellAt 0 HBX3.out
  have c1 : w3.cell? ⟨w.heap.size, 1, none⟩ = some (.int .i64 shard) := cellAt 1 HBX3.out
  have c2 : w3.cell? ⟨w.heap.size, 2, none⟩ = some (.int .i64 node) := cellAt 2 HBX3.out
  have c3 : w3.cell? ⟨w.heap.size, 3, none⟩ = some (.int .u64 (rev : Int)) := cellAt 3 HBX3.out
  go_wp2_with fail
  refine (HRE.out w3).mono ?_
  rintro e w4 ⟨v4, rfl, ho4, hb4⟩
  have HB4 := Lib.hid (HB3.out.trans (hb4.mono HB3.out.size))
  have HBX4 := Lib.hid ((hb4.block w.heap.size (heapLt HBX3.out)).trans HBX3.out)
  have HR34 := Lib.hid ((HR3.out.below hb4).more hb4.size)
  obtain ⟨A4, k4, rfl, hr4⟩ := ho4.open_
  have HR4 := Lib.hid hr4
  clear hb4 c0 c1 c2 c3 ho4 hr4
  have c0 : w4.cell? ⟨w.heap.size, 0, none⟩ = some (.int .u8 (kind : Int)) := cellAt 0 HBX4.out
  have c1 : w4.cell? ⟨w.heap.size, 1, none⟩ = some (.int .i64 shard) := cellAt 1 HBX4.out
  have c2 : w4.cell? ⟨w.heap.size, 2, none⟩ = some (.int .i64 node) := cellAt 2 HBX4.out
  have c3 : w4.cell? ⟨w.heap.size, 3, none⟩ = some (.int .u64 (rev : Int)) := cellAt 3 HBX4.out
  have hs3 := HST.out w4 _ _ _ _ _ HR34.out
  have hs4 := HST.out w4 _ _ _ _ _ HR4.out
  obtain ⟨T, hTT⟩ : ∃ T : ByteArray, T = ⟨bs.toArray⟩ := ⟨_, rfl⟩
  rw [← hTT] at hs3 hs4
  clear hTT
  have htt : (T.toList == T.toList) = true := by simp
  obtain ⟨nb, hnb⟩ : ∃ nb, nb = bs.length := ⟨_, rfl⟩
  rw [← hnb] at hs3 hs4 HR34 HR4 ⊢
  have HNB := Lib.hid hnb
  clear hnb
  cases ok
  · have hnb0 : nb = 0 := by rw [HNB.out, HBY.out, if_neg (by simp)]; rfl
    subst hnb0
    obtain rfl : E = 3 := by rw [HE.out, if_neg (by simp)]
    cases is
    · go_wp2_with fail
      refine (HD3.out (by first | rfl | trivial) A n cp w4 ((HR.out.below HB4.out).more HB4.out.size)).mono ?_
      rintro e w5 ⟨rfl, hb5⟩
      have HB5 := Lib.hid (HB4.out.trans (hb5.mono HB4.out.size))
      clear hb5 c0 c1 c2 c3 hs3 hs4
      go_wp2
      go_ret
      exact ⟨rfl, HB5.out.alloc HB5.out.size _⟩
    · go_wp2_with fail
      refine (HD2.out (by first | rfl | trivial) A n cp w4 ((HR.out.below HB4.out).more HB4.out.size)).mono ?_
      rintro e w5 ⟨rfl, hb5⟩
      have HB5 := Lib.hid (HB4.out.trans (hb5.mono HB4.out.size))
      clear hb5 c0 c1 c2 c3 hs3 hs4
      obtain ⟨wb, hwb⟩ : ∃ wb, wb = w5.alloc (.cells #[.int .u8 (tk : Int), .int .i64 tsh, .int .i64 tnd, .int .u64 (trv : Int)] 39) := ⟨_, rfl⟩
      have HBb := Lib.hid (show Below w.heap.size w wb by rw [hwb]; exact HB5.out.alloc HB5.out.size _)
      have hbd : wb.heap[w5.heap.size]? = some (.cells #[.int .u8 (tk : Int), .int .i64 tsh, .int .i64 tnd, .int .u64 (trv : Int)] 39 (0, 0)) := by rw [hwb]; exact heapNew (w := w5) _
      have HWb := Lib.hid hwb.symm
      have hwl : w5.heap.size < wb.heap.size := heapLt hbd
      clear hwb
      go_upto_region 14 with (fail)
      rw [HWb.out]
      have t0 : wb.cell? ⟨w5.heap.size, 0, none⟩ = some (.int .u8 (tk : Int)) := cellAt 0 hbd
      have t1 : wb.cell? ⟨w5.heap.size, 1, none⟩ = some (.int .i64 tsh) := cellAt 1 hbd
      have t2 : wb.cell? ⟨w5.heap.size, 2, none⟩ = some (.int .i64 tnd) := cellAt 2 hbd
      have t3 : wb.cell? ⟨w5.heap.size, 3, none⟩ = some (.int .u64 (trv : Int)) := cellAt 3 hbd
      clear hbd
      have HCV := Lib.hid (fun (W : World) (hW : Below wb.heap.size wb W) => HST.out W _ _ _ _ _ ((HR.out.below HBb.out).below (hW.mono HBb.out.size)))
      have HR7 := Lib.hid (fun (W : World) (B : Nat) (A7 : Option Addr) (n7 c7 : Nat) (hr : Rd W B A7 n7 c7 l) => HST.out W B A7 n7 c7 l hr)
      have HL7 := Lib.hid (HBT.out (by first | rfl | trivial))
      obtain ⟨T2, hT2⟩ : ∃ T2 : ByteArray, T2 = ⟨l.toArray⟩ := ⟨_, rfl⟩
      rw [← hT2] at HCV HR7
      clear hT2
      have htt2 : (T2.toList == T2.toList) = true := by simp
      have HV := Lib.hid (show (convert 45 9 (.slice A n cp)).run Try.prog wb.drew = .ok (.string T2) wb.drew ∧ wb.drew.cell? ⟨w5.heap.size, 0, none⟩ = some (.int .u8 (tk : Int)) ∧ wb.drew.cell? ⟨w5.heap.size, 1, none⟩ = some (.int .i64 tsh) ∧ wb.drew.cell? ⟨w5.heap.size, 2, none⟩ = some (.int .i64 tnd) ∧ wb.drew.cell? ⟨w5.heap.size, 3, none⟩ = some (.int .u64 (trv : Int)) from ⟨HCV.out _ (below_drew (Below.refl _ wb)), t0, t1, t2, t3⟩)
      go_wp2_with fail
      go_region_held (fun W => (convert 45 9 (.slice A n cp)).run Try.prog W = .ok (.string T2) W ∧ W.cell? ⟨w5.heap.size, 0, none⟩ = some (.int .u8 (tk : Int)) ∧ W.cell? ⟨w5.heap.size, 1, none⟩ = some (.int .i64 tsh) ∧ W.cell? ⟨w5.heap.size, 2, none⟩ = some (.int .i64 tnd) ∧ W.cell? ⟨w5.heap.size, 3, none⟩ = some (.int .u64 (trv : Int)))
        (first | exact hHeld | exact HV.out | exact hV7)
        (first
          | (go_at_call 20; refine (HTO.out _).mono ?_; rintro e w7 ⟨v7, rfl, hO7, hb7⟩; obtain ⟨A7, c7, hv7, hr7⟩ := hO7.open_; rw [HL7.out] at hv7 hr7; subst hv7; have hcv7 := HR7.out w7 _ A7 _ c7 hr7; have hb7' := below_undrew hb7; have hV7 : (convert 45 9 (.slice A n cp)).run Try.prog w7 = .ok (.string T2) w7 ∧ w7.cell? ⟨w5.heap.size, 0, none⟩ = some (.int .u8 (tk : Int)) ∧ w7.cell? ⟨w5.heap.size, 1, none⟩ = some (.int .i64 tsh) ∧ w7.cell? ⟨w5.heap.size, 2, none⟩ = some (.int .i64 tnd) ∧ w7.cell? ⟨w5.heap.size, 3, none⟩ = some (.int .u64 (trv : Int)) := ⟨HCV.out _ hb7', (hb7'.cell hwl).trans t0, (hb7'.cell hwl).trans t1, (hb7'.cell hwl).trans t2, (hb7'.cell hwl).trans t3⟩; have hB7 := Lib.hid (HBb.out.trans (hb7'.mono HBb.out.size))))
      all_goals
        go_wp2
        go_ret
        exact ⟨rfl, hB7.out⟩
  · have hnbp : 0 < nb := by have := HCL.out; rw [HNB.out, HBY.out, if_pos rfl]; omega
    obtain rfl : E = 0 := by rw [HE.out, if_pos rfl]
    go_wp2_with fail
    refine (HD1.out (by first | rfl | trivial) A3 nb k3 w4 HR34.out).mono ?_
    rintro e w5 ⟨rfl, hb5⟩
    have HB5 := Lib.hid (HB4.out.trans (hb5.mono HB4.out.size))
    have HBX5 := Lib.hid ((hb5.block w.heap.size (heapLt HBX4.out)).trans HBX4.out)
    clear hb5 c0 c1 c2 c3 hs3 hs4
    obtain ⟨w6, hw6⟩ : ∃ w6, w6 = w5.alloc (.cells #[.int .u8 (kind : Int), .int .i64 shard, .int .i64 node, .int .u64 (rev : Int)] 39) := ⟨_, rfl⟩
    have HB6 := Lib.hid (show Below w.heap.size w w6 by rw [hw6]; exact HB5.out.alloc HB5.out.size _)
    have hbx6 : w6.heap[w.heap.size]? = some (.cells #[.int .u8 (kind : Int), .int .i64 shard, .int .i64 node, .int .u64 (rev : Int)] 39 (0, 0)) := by rw [hw6]; exact heapOld HBX5.out
    have hbd6 : w6.heap[w5.heap.size]? = some (.cells #[.int .u8 (kind : Int), .int .i64 shard, .int .i64 node, .int .u64 (rev : Int)] 39 (0, 0)) := by rw [hw6]; exact heapNew (w := w5) _
    have HW6 := Lib.hid hw6.symm
    clear hw6
    go_upto_region 9 with (fail)
    rw [HW6.out]
    have c0 : w6.cell? ⟨w.heap.size, 0, none⟩ = some (.int .u8 (kind : Int)) := cellAt 0 hbx6
    have c1 : w6.cell? ⟨w.heap.size, 1, none⟩ = some (.int .i64 shard) := cellAt 1 hbx6
    have c2 : w6.cell? ⟨w.heap.size, 2, none⟩ = some (.int .i64 node) := cellAt 2 hbx6
    have c3 : w6.cell? ⟨w.heap.size, 3, none⟩ = some (.int .u64 (rev : Int)) := cellAt 3 hbx6
    have d0 : w6.cell? ⟨w5.heap.size, 0, none⟩ = some (.int .u8 (kind : Int)) := cellAt 0 hbd6
    have d1 : w6.cell? ⟨w5.heap.size, 1, none⟩ = some (.int .i64 shard) := cellAt 1 hbd6
    have d2 : w6.cell? ⟨w5.heap.size, 2, none⟩ = some (.int .i64 node) := cellAt 2 hbd6
    have d3 : w6.cell? ⟨w5.heap.size, 3, none⟩ = some (.int .u64 (rev : Int)) := cellAt 3 hbd6
    clear hbx6 hbd6
    cases is
    · go_wp2_with fail
      refine (HD3.out (by first | rfl | trivial) A n cp w6 ((HR.out.below HB6.out).more HB6.out.size)).mono ?_
      rintro e w8 ⟨rfl, hb8⟩
      have HB8 := Lib.hid (HB6.out.trans (hb8.mono HB6.out.size))
      clear hb8 c0 c1 c2 c3 d0 d1 d2 d3
      go_wp2
      go_ret
      exact ⟨rfl, HB8.out.alloc HB8.out.size _⟩
    · go_wp2_with fail
      refine (HD2.out (by first | rfl | trivial) A n cp w6 ((HR.out.below HB6.out).more HB6.out.size)).mono ?_
      rintro e w8 ⟨rfl, hb8⟩
      have HB8 := Lib.hid (HB6.out.trans (hb8.mono HB6.out.size))
      clear hb8 c0 c1 c2 c3 d0 d1 d2 d3
      obtain ⟨wb, hwb⟩ : ∃ wb, wb = w8.alloc (.cells #[.int .u8 (tk : Int), .int .i64 tsh, .int .i64 tnd, .int .u64 (trv : Int)] 39) := ⟨_, rfl⟩
      have HBb := Lib.hid (show Below w.heap.size w wb by rw [hwb]; exact HB8.out.alloc HB8.out.size _)
      have hbd : wb.heap[w8.heap.size]? = some (.cells #[.int .u8 (tk : Int), .int .i64 tsh, .int .i64 tnd, .int .u64 (trv : Int)] 39 (0, 0)) := by rw [hwb]; exact heapNew (w := w8) _
      have HWb := Lib.hid hwb.symm
      have hwl : w8.heap.size < wb.heap.size := heapLt hbd
      clear hwb
      go_upto_region 14 with (fail)
      rw [HWb.out]
      have t0 : wb.cell? ⟨w8.heap.size, 0, none⟩ = some (.int .u8 (tk : Int)) := cellAt 0 hbd
      have t1 : wb.cell? ⟨w8.heap.size, 1, none⟩ = some (.int .i64 tsh) := cellAt 1 hbd
      have t2 : wb.cell? ⟨w8.heap.size, 2, none⟩ = some (.int .i64 tnd) := cellAt 2 hbd
      have t3 : wb.cell? ⟨w8.heap.size, 3, none⟩ = some (.int .u64 (trv : Int)) := cellAt 3 hbd
      clear hbd
      have HCV := Lib.hid (fun (W : World) (hW : Below wb.heap.size wb W) => HST.out W _ _ _ _ _ ((HR.out.below HBb.out).below (hW.mono HBb.out.size)))
      have HR7 := Lib.hid (fun (W : World) (B : Nat) (A7 : Option Addr) (n7 c7 : Nat) (hr : Rd W B A7 n7 c7 l) => HST.out W B A7 n7 c7 l hr)
      have HL7 := Lib.hid (HBT.out (by first | rfl | trivial))
      obtain ⟨T2, hT2⟩ : ∃ T2 : ByteArray, T2 = ⟨l.toArray⟩ := ⟨_, rfl⟩
      rw [← hT2] at HCV HR7
      clear hT2
      have htt2 : (T2.toList == T2.toList) = true := by simp
      have HV := Lib.hid (show (convert 45 9 (.slice A n cp)).run Try.prog wb.drew = .ok (.string T2) wb.drew ∧ wb.drew.cell? ⟨w8.heap.size, 0, none⟩ = some (.int .u8 (tk : Int)) ∧ wb.drew.cell? ⟨w8.heap.size, 1, none⟩ = some (.int .i64 tsh) ∧ wb.drew.cell? ⟨w8.heap.size, 2, none⟩ = some (.int .i64 tnd) ∧ wb.drew.cell? ⟨w8.heap.size, 3, none⟩ = some (.int .u64 (trv : Int)) from ⟨HCV.out _ (below_drew (Below.refl _ wb)), t0, t1, t2, t3⟩)
      go_wp2_with fail
      go_region_held (fun W => (convert 45 9 (.slice A n cp)).run Try.prog W = .ok (.string T2) W ∧ W.cell? ⟨w8.heap.size, 0, none⟩ = some (.int .u8 (tk : Int)) ∧ W.cell? ⟨w8.heap.size, 1, none⟩ = some (.int .i64 tsh) ∧ W.cell? ⟨w8.heap.size, 2, none⟩ = some (.int .i64 tnd) ∧ W.cell? ⟨w8.heap.size, 3, none⟩ = some (.int .u64 (trv : Int)))
        (first | exact hHeld | exact HV.out | exact hV7)
        (first
          | (go_at_call 20; refine (HTO.out _).mono ?_; rintro e w7 ⟨v7, rfl, hO7, hb7⟩; obtain ⟨A7, c7, hv7, hr7⟩ := hO7.open_; rw [HL7.out] at hv7 hr7; subst hv7; have hcv7 := HR7.out w7 _ A7 _ c7 hr7; have hb7' := below_undrew hb7; have hV7 : (convert 45 9 (.slice A n cp)).run Try.prog w7 = .ok (.string T2) w7 ∧ w7.cell? ⟨w8.heap.size, 0, none⟩ = some (.int .u8 (tk : Int)) ∧ w7.cell? ⟨w8.heap.size, 1, none⟩ = some (.int .i64 tsh) ∧ w7.cell? ⟨w8.heap.size, 2, none⟩ = some (.int .i64 tnd) ∧ w7.cell? ⟨w8.heap.size, 3, none⟩ = some (.int .u64 (trv : Int)) := ⟨HCV.out _ hb7', (hb7'.cell hwl).trans t0, (hb7'.cell hwl).trans t1, (hb7'.cell hwl).trans t2, (hb7'.cell hwl).trans t3⟩; have hB7 := Lib.hid (HBb.out.trans (hb7'.mono HBb.out.size))))
      all_goals
        go_wp2
        go_ret
        exact ⟨rfl, hB7.out⟩
end Go.Proofs.Ytghnelfgnfhclaa
