/-
  What the document's Read does, by a contract. (Written by gen_httpl.py.)
-/
import Derived.Test.YthgfjfljiadllaaGreatDoorHttpH
namespace Go.Proofs.YthgfjfljiadllaaGreatDoor
open Go.RowKit Mem Go.Sort
set_option linter.unusedVariables false
set_option maxRecDepth 100000

theorem rfind_some {s : ByteArray} {c : UInt8} {z : Int} {j : Nat} (hz : (c.toNat : Int) = z) (h : M.fi c (bl s) = j) (hl : j < s.size) (hs : s.size ≤ 9223372036854775806) (w : World) : Calls Tryz.prog 16 #[.string s, .int .u8 z] w (SaysZ j w) := by
  have := ref_find_any s c z hz w hs
  rwa [fz_some (by rw [h, bl_len]; exact hl), h] at this
theorem rfind_none {s : ByteArray} {c : UInt8} {z : Int} (hz : (c.toNat : Int) = z) (h : ¬ M.fi c (bl s) < s.size) (hs : s.size ≤ 9223372036854775806) (w : World) : Calls Tryz.prog 16 #[.string s, .int .u8 z] w (SaysZ (-1) w) := by
  have := ref_find_any s c z hz w hs
  rwa [fz_none (by rw [bl_len]; exact h)] at this
theorem M.judge_eq (p : List UInt8) (k : Nat) (m pa : List UInt8) (h : M.Hd) : M.judge p k m pa h = if h.hosts ≠ 1 ∨ 1 < h.lengths then (M.noRq, 0, 400)
  else if 8192 < h.length then (M.noRq, 0, 413)
  else if p.length < k + h.length then (M.noRq, 0, 0)
  else (⟨m, pa, (p.drop k).take h.length, h.close⟩, k + h.length, 0) := rfl
theorem M.read_first {p : List UInt8} {l0 : List UInt8} {r : List (List UInt8)} {b : Nat} (h : M.heads p = .yes (l0 :: r) b) (h2 : M.first l0 = none) : M.read p = (M.noRq, 0, 400) := by
  unfold M.read; rw [h]; simp only [M.readLines, h2]
theorem M.read_lines {p : List UInt8} {l0 m pa : List UInt8} {r : List (List UInt8)} {b : Nat} (h : M.heads p = .yes (l0 :: r) b) (h2 : M.first l0 = some (m, pa)) (h3 : M.linesF ⟨false, 0, 0, 0⟩ r = none) : M.read p = (M.noRq, 0, 400) := by
  unfold M.read; rw [h]; simp only [M.readLines, h2, h3]
theorem M.read_judge {p : List UInt8} {l0 m pa : List UInt8} {r : List (List UInt8)} {b : Nat} {hd : M.Hd} (h : M.heads p = .yes (l0 :: r) b) (h2 : M.first l0 = some (m, pa)) (h3 : M.linesF ⟨false, 0, 0, 0⟩ r = some hd) : M.read p = M.judge p b m pa hd := by
  unfold M.read; rw [h]; simp only [M.readLines, h2, h3]
theorem M.linesF_step {h h' : M.Hd} {l : List UInt8} {r : List (List UInt8)} (e : M.lineStep h l = some h') : M.linesF h (l :: r) = M.linesF h' r := by
  conv => lhs; unfold M.linesF
  rw [e]
theorem M.linesF_fail {h : M.Hd} {l : List UInt8} {r : List (List UInt8)} (e : M.lineStep h l = none) : M.linesF h (l :: r) = none := by
  conv => lhs; unfold M.linesF
  rw [e]

set_option maxHeartbeats 8000000 in
theorem ref_Read_any (s : ByteArray) (w : World) (hs : s.size ≤ 281474976710656) : Calls Tryz.prog 8 #[.string s] w (TellsR (M.read (bl s)) w) := by
  obtain ⟨i0, hi, hz0, hz1, hz2⟩ := info_of Tryz.infoS
  have HI := Lib.hid hi; have HZ0 := Lib.hid hz0; have HZ1 := Lib.hid hz1; have HZ2 := Lib.hid hz2
  clear hi hz0 hz1 hz2
  have hln : (bl s).length = s.size := bl_len s
  obtain ⟨w0, hw0⟩ : ∃ w0, w0 = w.alloc (.cells #[.string ⟨#[]⟩, .string ⟨#[]⟩, .string ⟨#[]⟩, .bool false] 24) := ⟨_, rfl⟩
  have HQ0 := Lib.hid (show RqIn w0 w.heap.size [] [] [] false by rw [hw0]; exact RqIn.new w [] [] [] false)
  have hb0 : Below w.heap.size w w0 := by rw [hw0]; exact bel_alloc _ _
  have HB0 := Lib.hid hb0
  have HW0 := Lib.hid hw0
  have hlt0 : w.heap.size < w0.heap.size := HQ0.out.lt
  clear hb0 hw0
  go_enter Tryz.func8, Tryz.ntmps8
  go_wp2
  rw [← HW0.out]
  go_loopw [5, 6] (fun v p wr => ∃ (n k c : Nat) (A : Option Addr) (lines : List (List UInt8)), v = .slice A n c ∧ p = .int .i64 (k : Int) ∧ n ≤ 33 ∧ k ≤ 2048 ∧ k ≤ s.size ∧ Hid (M.Rd (bl s) n k lines) ∧ Hid (OwnV wr w0.heap.size 9 (.slice A n c) (strs lines)) ∧ Hid (Below w0.heap.size w0 wr)) (fun v _ _ => 34 - lenv v)
  case atStart => exact ⟨0, 0, 0, none, [], rfl, rfl, by omega, by omega, by omega, Lib.hid (M.Rd.start _), Lib.hid (OwnV.nil _ _ _), Lib.hid (Below.refl _ _)⟩
  case round =>
    obtain ⟨n, k, c, A, lines, rfl, rfl, hn, hk, hks, HR, HO, HB⟩ := hrel
    rename World => wr
    have HQ := Lib.hid (HQ0.out.on HB.out)
    have HBB := Lib.hid (HB0.out.trans (HB.out.mono HB0.out.size))
    obtain ⟨x0, x1, x2, x3⟩ := HQ.out.cells
    obtain ⟨y0, y1, y2, y3⟩ := HQ.out.free
    by_cases hm : 32 < n
    · have HX := Lib.hid (M.read_no (HR.out.many hm))
      go_wp2
      (try simp only [Exit.inBlock, Exit.then])
      refine bodyPost_ret (results_row3 rfl _ _ w.heap.size 24 (rqc [] [] [] false) (0, 0) _ rfl (HQ.out.put [] [] [] false) Tryz.underlying24 rfl Tryz.rqSize) rfl ?_
      exact ⟨by rw [HX.out]; rfl, below_put4 HBB.out (Nat.le_refl _) _ _ _ _⟩
    · have hn32 : n ≤ 32 := by omega
      obtain ⟨s2, hs2⟩ : ∃ s2, s.extract k s.size = s2 := ⟨_, rfl⟩
      have hb2 : bl s2 = (bl s).drop k := by rw [← hs2, bl_from]
      have hz2 : s2.size = s.size - k := by rw [← bl_len, hb2, List.length_drop, hln]
      have hround := M.headF_round (k := k) (p := bl s) HR.out.len hn32
      rw [HR.out.same, ← hb2] at hround
      by_cases hj : M.fi 10 (bl s2) < s2.size
      · obtain ⟨j, hje⟩ : ∃ j, M.fi 10 (bl s2) = j := ⟨_, rfl⟩
        rw [hje] at hj hround
        have HIX := Lib.hid (rfind_some (c := 10) (z := 10) rfl hje hj (by omega))
        have hkj : k + j < s.size := by omega
        by_cases hfar : 2048 ≤ k + j
        · have HX := Lib.hid (M.read_no (show M.heads (bl s) = .no 431 by rw [hround, if_neg (by rw [bl_len]; omega), if_pos hfar]))
          clear hround hb2 hz2
          go_wp2_with fail
          refine (HIX.out _).mono ?_
          rintro e w1 ⟨rfl, rfl⟩
          go_wp2
          (try simp only [Exit.inBlock, Exit.then])
          refine bodyPost_ret (results_row3 rfl _ _ w.heap.size 24 (rqc [] [] [] false) (0, 0) _ rfl (HQ.out.put [] [] [] false) Tryz.underlying24 rfl Tryz.rqSize) rfl ?_
          exact ⟨by rw [HX.out]; rfl, below_put4 HBB.out (Nat.le_refl _) _ _ _ _⟩
        · have hnear : k + j < 2048 := by omega
          by_cases hj0 : j = 0
          · subst hj0
            have HX := Lib.hid (M.read_no (show M.heads (bl s) = .no 400 by rw [hround, if_neg (by rw [bl_len]; omega), if_neg hfar, if_pos (.inl rfl)]))
            clear hround hb2 hz2
            go_wp2_with fail
            refine (HIX.out _).mono ?_
            rintro e w1 ⟨rfl, rfl⟩
            go_wp2
            (try simp only [Exit.inBlock, Exit.then])
            refine bodyPost_ret (results_row3 rfl _ _ w.heap.size 24 (rqc [] [] [] false) (0, 0) _ rfl (HQ.out.put [] [] [] false) Tryz.underlying24 rfl Tryz.rqSize) rfl ?_
            exact ⟨by rw [HX.out]; rfl, below_put4 HBB.out (Nat.le_refl _) _ _ _ _⟩
          · have hj1 : 1 ≤ j := by omega
            have hjb : ((j : Int) == 0) = false := by rw [beq_eq_false_iff_ne]; omega
            have hidx : k + j - 1 < s.size := by omega
            obtain ⟨y, hy⟩ : ∃ y, (s[k + j - 1]'hidx).toNat = y := ⟨_, rfl⟩
            have hat : (bl s2)[j - 1]? = some (s[k + j - 1]'hidx) := by
              rw [hb2, List.getElem?_drop, show k + (j - 1) = k + j - 1 by omega]
              exact List.getElem?_eq_getElem (by rw [hln]; omega)
            have hin : ((k : Int) + (j : Int) - 1).toNat = k + j - 1 := by omega
            by_cases hy13 : y = 13
            · subst hy13
              have hno : ¬ (j = 0 ∨ (bl s2)[j - 1]? ≠ some 13) := by
                rintro (h | h)
                · omega
                · exact h (by rw [hat]; exact congrArg some (UInt8.toNat_inj.1 hy))
              obtain ⟨sL, hsL⟩ : ∃ sL, s.extract k (k + j - 1) = sL := ⟨_, rfl⟩
              have hbL : bl sL = (bl s2).take (j - 1) := by rw [← hsL, bl_cut, hb2, show k + j - 1 = k + (j - 1) by omega, List.take_drop]
              have hlL : (bl sL).length = j - 1 := by rw [hbL, List.length_take, bl_len]; omega
              by_cases hend : j = 1 ∧ lines ≠ []
              · obtain ⟨rfl, hne⟩ := hend
                have hks1 : k < s.size := by omega
                have hyk : (s[k]'hks1).toNat = 13 := by have h9 := hy; simp only [Nat.add_sub_cancel] at h9; exact h9
                clear hy
                have HHS := Lib.hid (show M.heads (bl s) = .yes lines (k + 1 + 1) by rw [hround, if_neg (by rw [bl_len]; omega), if_neg hfar, if_neg hno, if_pos ⟨rfl, hne⟩])
                have hq : (sL.toList == []) = true := by rw [Lib.toList_data, beq_iff_eq]; exact List.eq_nil_of_length_eq_zero hlL
                have hn0 : 0 < n := by rw [← HR.out.len]; exact List.length_pos_iff.2 hne
                have HLN := Lib.hid HR.out.len
                have HSH := Lib.hid HR.out.short
                have HRV := Lib.hid (OwnV.rd HO.out)
                clear hround hb2 hz2 hno hje hat hlL hbL
                obtain ⟨l0, r, rfl⟩ := List.exists_cons_of_ne_nil hne
                clear hne
                obtain ⟨b, off, rfl, hbB, q0⟩ := HRV.out.at_ (k := 0) (by omega)
                rw [Nat.add_zero, strs_at (by simp)] at q0
                simp only [List.getElem_cons_zero] at q0
                have HF := Lib.hid (fun w1 => ref_first_any ⟨l0.toArray⟩ w1 (by rw [size_mk]; have := HSH.out l0 (by simp); omega))
                simp only [bl_mk] at HF
                have hb1 : k + 1 + 1 ≤ s.size := by have := (M.heads_yes HHS.out).2.2.1; omega
                have hcn := HRV.out.2.1
                have hcm := HRV.out.max
                cases hf : M.first l0 with
                | none =>
                  have HX := Lib.hid (M.read_first HHS.out hf)
                  rw [hf] at HF
                  simp only [firstT, rqv] at HF
                  clear hf x0 x1 x2 x3 y0 y1 y2 y3
                  go_wp2_with fail
                  refine (HIX.out _).mono ?_
                  rintro e w1 ⟨rfl, rfl⟩
                  go_wp2_with fail
                  refine (HF.out _).mono ?_
                  rintro e w2 ⟨rfl, hb2⟩
                  have HQ2 := Lib.hid (HQ.out.on hb2)
                  have HB2 := Lib.hid (HBB.out.trans (hb2.mono HBB.out.size))
                  obtain ⟨x0, x1, x2, x3⟩ := HQ2.out.cells
                  obtain ⟨y0, y1, y2, y3⟩ := HQ2.out.free
                  have hlt2 := HQ2.out.lt
                  have hne2 : w.heap.size ≠ w2.heap.size := by omega
                  clear hb2
                  go_wp2
                  (try simp only [Exit.inBlock, Exit.then])
                  refine bodyPost_ret (results_row3 rfl _ _ w.heap.size 24 (rqc [] [] [] false) (0, 0) _ rfl ((HQ2.out.put [] [] [] false).on (bel_alloc _ _)) Tryz.underlying24 rfl Tryz.rqSize) rfl ?_
                  exact ⟨by rw [HX.out]; rfl, (below_put4 HB2.out (Nat.le_refl _) _ _ _ _).alloc (by have := HB2.out.size; simpa using this) _⟩
                | some mp =>
                  obtain ⟨m, pa⟩ := mp
                  rw [hf] at HF
                  simp only [firstT, rqv] at HF
                  have HF1 := Lib.hid hf
                  clear hf x0 x1 x2 x3 y0 y1 y2 y3
                  go_wp2_with fail
                  refine (HIX.out _).mono ?_
                  rintro e w1 ⟨rfl, rfl⟩
                  go_wp2_with fail
                  refine (HF.out _).mono ?_
                  rintro e w2 ⟨rfl, hb2⟩
                  have hlt2 : w.heap.size < w2.heap.size := (HQ.out.on hb2).lt
                  have hbw2 : w1.heap.size ≤ w2.heap.size := hb2.size
                  obtain ⟨w3, hw3⟩ : ∃ w3, w3 = w2.alloc (.cells #[.string ⟨m.toArray⟩, .string ⟨pa.toArray⟩, .string ⟨#[]⟩, .bool false] 24) := ⟨_, rfl⟩
                  have hb3 : Below w1.heap.size w1 w3 := by rw [hw3]; exact hb2.trans ((bel_alloc _ _).mono hb2.size)
                  have HQ3 := Lib.hid (HQ.out.on hb3)
                  have HB3 := Lib.hid (HBB.out.trans (hb3.mono HBB.out.size))
                  have HRV3 := Lib.hid ((HRV.out.below hb3).more hbw2)
                  obtain ⟨g2, hg2⟩ : ∃ g2, w2.heap.size = g2 := ⟨_, rfl⟩
                  have HG3 := Lib.hid (show RqIn w3 g2 m pa [] false by rw [hw3, ← hg2]; exact heap_alloc_new _ _)
                  rw [hg2] at hlt2 HRV3
                  have hg2n : w.heap.size ≠ g2 := by omega
                  have hg2m : g2 ≠ w.heap.size := by omega
                  have HW3 := Lib.hid hw3
                  have HG2 := Lib.hid hg2
                  have hbg : b < g2 := by omega
                  have hgs : g2 < w3.heap.size := HG3.out.lt
                  clear hb2 hb3 hw3 hg2 q0 HF
                  go_wp2
                  rw [HG2.out, ← HW3.out]
                  go_loopw [11, 12, 13, 14] (fun vn vh vl p w9 => ∃ (i : Nat) (cl : Bool) (a1 a2 x : Nat), vn = .int .i64 (x : Int) ∧ vh = .int .i64 (a1 : Int) ∧ vl = .int .i64 (a2 : Int) ∧ p = .int .i64 (i : Int) ∧ 1 ≤ i ∧ i ≤ n ∧ Hid (M.linesF ⟨cl, a1, a2, x⟩ ((l0 :: r).drop i) = M.linesF ⟨false, 0, 0, 0⟩ r) ∧ a1 + 1 ≤ i ∧ a2 + 1 ≤ i ∧ x < 1000000000 ∧ Hid (RqIn w9 g2 m pa [] cl) ∧ Hid (Below g2 w3 w9)) (fun _ _ _ p _ => n - (intOf p).toNat)
                  case atStart => exact ⟨1, false, 0, 0, 0, rfl, rfl, rfl, rfl, by omega, by omega, Lib.hid rfl, by omega, by omega, by omega, HG3, Lib.hid (Below.refl _ _)⟩
                  case round =>
                    obtain ⟨i, cl, a1, a2, x, rfl, rfl, rfl, rfl, hi1, hin, HLF, ha1, ha2, hx, HG, HBr⟩ := hrel
                    rename World => wr
                    have HQr := Lib.hid (HQ3.out.below HBr.out hlt2)
                    have HBz := Lib.hid (HB3.out.trans (HBr.out.mono (Nat.le_of_lt hlt2)))
                    obtain ⟨x0, x1, x2, x3⟩ := HQr.out.cells
                    obtain ⟨y0, y1, y2, y3⟩ := HQr.out.free
                    by_cases hlt : i < n
                    · have hir : i < (l0 :: r).length := by rw [HLN.out]; exact hlt
                      obtain ⟨b2, off2, e2, hb2, q⟩ := (HRV3.out.below HBr.out).at_ hlt
                      injection e2 with e2
                      injection e2 with e2 e3 e4
                      subst e2 e3
                      rw [strs_at hir] at q
                      have hsl := HSH.out (l0 :: r)[i] (List.getElem_mem hir)
                      have hlf := HLF.out
                      rw [List.drop_eq_getElem_cons hir] at hlf
                      generalize (l0 :: r)[i] = l at *
                      obtain ⟨sl, hsle⟩ : ∃ sl : ByteArray, (⟨l.toArray⟩ : ByteArray) = sl := ⟨_, rfl⟩
                      have hbl : bl sl = l := by rw [← hsle, bl_mk]
                      rw [hsle] at q
                      have hzl : sl.size ≤ 2048 := by rw [← bl_len, hbl]; exact hsl
                      clear hsle hsl
                      rw [← hbl] at hlf
                      have HNX := Lib.hid (fun h' (e : M.lineStep ⟨cl, a1, a2, x⟩ (bl sl) = some h') => (M.linesF_step e).symm.trans hlf)
                      have HFL := Lib.hid (fun (e : M.lineStep ⟨cl, a1, a2, x⟩ (bl sl) = none) => M.read_lines HHS.out HF1.out (hlf.symm.trans (M.linesF_fail e)))
                      have HFEW := Lib.hid (fun h' (e : M.lineStep ⟨cl, a1, a2, x⟩ (bl sl) = some h') => M.lineStep_few e)
                      clear hlf hbl
                      generalize hstep : M.lineStep ⟨cl, a1, a2, x⟩ (bl sl) = R at *
                      by_cases hk58 : M.fi 58 (bl sl) < sl.size
                      · obtain ⟨kc, hkc⟩ : ∃ kc, M.fi 58 (bl sl) = kc := ⟨_, rfl⟩
                        rw [hkc] at hk58
                        have HIC := Lib.hid (rfind_some (c := 58) (z := 58) rfl hkc hk58 (by omega))
                        obtain ⟨sn, hsn⟩ : ∃ sn, sl.extract 0 kc = sn := ⟨_, rfl⟩
                        obtain ⟨sv, hsv⟩ : ∃ sv, sl.extract (kc + 1) sl.size = sv := ⟨_, rfl⟩
                        have hbn : bl sn = (bl sl).take kc := by rw [← hsn, bl_cut, List.drop_zero]
                        have hbv : bl sv = (bl sl).drop (kc + 1) := by rw [← hsv, bl_from]
                        have hzn : sn.size ≤ 2048 := by rw [← hsn, size_cut]; omega
                        have hzv : sv.size ≤ 2048 := by rw [← hsv, size_cut]; omega
                        have HST : R = if M.isName (bl sn) = true ∧ M.isValue (M.trim (bl sv)) = true then M.field ⟨cl, a1, a2, x⟩ ((bl sn).map M.lowr) (M.trim (bl sv)) else none := by
                          rw [← hstep]
                          unfold M.lineStep
                          rw [hkc, if_neg (by rw [bl_len]; omega), ← hbn, ← hbv]
                        have HNM := Lib.hid (fun w1 => ref_name_any sn w1 (by omega))
                        obtain ⟨sT, hsT⟩ : ∃ sT : ByteArray, (⟨(M.trim (bl sv)).toArray⟩ : ByteArray) = sT := ⟨_, rfl⟩
                        have hbT : bl sT = M.trim (bl sv) := by rw [← hsT, bl_mk]
                        have hzT : sT.size ≤ 2048 := by rw [← bl_len, hbT]; have := trim_len (bl sv); rw [bl_len] at this; omega
                        have HTR := Lib.hid (fun w1 => ref_trim_any sv w1 (by omega))
                        rw [hsT] at HTR
                        rw [← hbT] at HST
                        have HLO := Lib.hid (fun w1 => ref_low_any sn w1 (by omega))
                        have HLOV := Lib.hid (fun w1 => ref_low_any sT w1 (by omega))
                        have HLE := Lib.hid (fun w1 => ref_length_any sT w1 (by omega))
                        have HST' := Lib.hid HST
                        clear hstep hkc hbn hbv hsT hbT HST
                        generalize hbN : M.isName (bl sn) = bn at *
                        clear hbN
                        cases bn with
                        | false =>
                          have HX := Lib.hid (HFL.out (by rw [HST'.out]; simp))
                          go_wp2_with fail
                          refine (HIC.out _).mono ?_
                          rintro e w1 ⟨rfl, rfl⟩
                          go_wp2_with fail
                          refine (HNM.out _).mono ?_
                          rintro e w1 ⟨rfl, rfl⟩
                          go_wp2
                          (try simp only [Exit.inBlock, Exit.then])
                          refine bodyPost_ret (results_row3 rfl _ _ w.heap.size 24 (rqc [] [] [] false) (0, 0) _ rfl (HQr.out.put [] [] [] false) Tryz.underlying24 rfl Tryz.rqSize) rfl ?_
                          exact ⟨by rw [HX.out]; rfl, below_put4 HBz.out (Nat.le_refl _) _ _ _ _⟩
                        | true =>
                          have HS2 := Lib.hid (show R = if M.isValue (bl sT) = true then M.field ⟨cl, a1, a2, x⟩ ((bl sn).map M.lowr) (bl sT) else none by rw [HST'.out]; simp)
                          clear HST'
                          go_wp2_with fail
                          refine (HIC.out _).mono ?_
                          rintro e w1 ⟨rfl, rfl⟩
                          go_wp2_with fail
                          refine (HNM.out _).mono ?_
                          rintro e w1 ⟨rfl, rfl⟩
                          go_wp2_with fail
                          refine (HTR.out _).mono ?_
                          rintro e w1 ⟨rfl, rfl⟩
                          go_wp2
                          go_loopw [17] (fun p w9 => ∃ k2 : Nat, p = .int .i64 (k2 : Int) ∧ k2 ≤ sT.size ∧ Hid (PreAll M.valB (bl sT) k2) ∧ w9 = w1) (fun p _ => sT.size - (intOf p).toNat)
                          case atStart => exact ⟨0, rfl, by omega, Lib.hid (PreAll.zero _ _), rfl⟩
                          case round =>
                            obtain ⟨k2, rfl, hk2, HI2, hweq⟩ := hrel
                            subst hweq
                            rename World => wc
                            by_cases hlt2v : k2 < sT.size
                            · have hil : k2 < (bl sT).length := by rw [bl_len]; exact hlt2v
                              have hiff := valB_iff (sT[k2])
                              have HN := Lib.hid (HI2.out.next hil)
                              have HFv := Lib.hid (all_false (f := M.valB) hil)
                              rw [bl_get _ _ hlt2v] at HN HFv
                              obtain ⟨z, hz⟩ : ∃ z, (sT[k2]).toNat = z := ⟨_, rfl⟩
                              rw [hz] at hiff
                              generalize M.valB sT[k2] = vb at *
                              clear hm hn32 hfar hnear hj0 hj1 hjb hyk hks1 hidx hj hkj hn hk hks hn0 hb1 hcn hcm hbB hbw2 hg2n hg2m hbg hgs hi1 hin ha1 ha2 hx hlt hir hb2 hzl hk58 hzn hzv q hq hln hlt0 hs
                              by_cases hbad : (z < 32 ∧ z ≠ 9) ∨ z = 127
                              · have HX := Lib.hid (HFL.out (by
                                  rw [HS2.out, if_neg]
                                  unfold M.isValue
                                  rw [HFv.out (by cases vb with | false => rfl | true => exact absurd hbad (hiff.1 rfl))]
                                  simp))
                                clear hiff
                                by_cases hz1 : z < 32
                                · have hzi : (z : Int) < 32 := by omega
                                  have hz9i : ¬ (z : Int) = 9 := by omega
                                  clear hbad hz1
                                  go_wp2
                                  (try simp only [Exit.inBlock, Exit.then])
                                  refine bodyPost_ret (results_row3 rfl _ _ w.heap.size 24 (rqc [] [] [] false) (0, 0) _ rfl (HQr.out.put [] [] [] false) Tryz.underlying24 rfl Tryz.rqSize) rfl ?_
                                  exact ⟨by rw [HX.out]; rfl, below_put4 HBz.out (Nat.le_refl _) _ _ _ _⟩
                                · have hz127 : z = 127 := by omega
                                  clear hbad
                                  subst hz127
                                  go_wp2
                                  (try simp only [Exit.inBlock, Exit.then])
                                  refine bodyPost_ret (results_row3 rfl _ _ w.heap.size 24 (rqc [] [] [] false) (0, 0) _ rfl (HQr.out.put [] [] [] false) Tryz.underlying24 rfl Tryz.rqSize) rfl ?_
                                  exact ⟨by rw [HX.out]; rfl, below_put4 HBz.out (Nat.le_refl _) _ _ _ _⟩
                              · have HN2 := Lib.hid (HN.out (hiff.2 hbad))
                                clear hiff
                                by_cases hz1 : z < 32
                                · have hz9 : z = 9 := Classical.byContradiction fun h => hbad (.inl ⟨hz1, h⟩)
                                  clear hbad
                                  subst hz9
                                  go_wp2
                                  go_roundw
                                  case rel => exact ⟨k2 + 1, by go_num, by omega, HN2, trivial⟩
                                  case measure => simp [intOf]; omega
                                · have hzi : ¬ (z : Int) < 32 := by omega
                                  have hz127i : ¬ (z : Int) = 127 := fun h => hbad (.inr (by omega))
                                  have hzd : decide ((z : Int) < 32) = false := decide_eq_false hzi
                                  have hz127a : ((z : Int) == 127) = false := by rw [beq_eq_false_iff_ne]; exact hz127i
                                  clear hbad hz1 hzi hz127i
                                  go_wp2
                                  go_roundw
                                  case rel => exact ⟨k2 + 1, by go_num, by omega, HN2, trivial⟩
                                  case measure => simp [intOf]; omega
                            · have HS3 := Lib.hid (show R = M.field ⟨cl, a1, a2, x⟩ ((bl sn).map M.lowr) (bl sT) by rw [HS2.out, if_pos (show M.isValue (bl sT) = true from HI2.out.whole (by rw [bl_len]; omega))])
                              clear HS2 HI2 x0 x1 x2 x3 y0 y1 y2 y3
                              generalize (bl sn).map M.lowr = Z at *
                              go_wp2_with fail
                              refine (HLO.out _).mono ?_
                              rintro e wl ⟨rfl, hbL⟩
                              have hgw : g2 ≤ wc.heap.size := Nat.le_of_lt HG.out.lt
                              have HBl := Lib.hid (HBr.out.trans (hbL.mono hgw))
                              have HGl := Lib.hid (HG.out.on hbL)
                              have HQl := Lib.hid (HQ3.out.below HBl.out hlt2)
                              have HBzl := Lib.hid (HB3.out.trans (HBl.out.mono (Nat.le_of_lt hlt2)))
                              clear hbL
                              by_cases c1 : Z = M.hostW
                              · have q1 : (Z == [104, 111, 115, 116]) = true := by rw [beq_iff_eq]; exact c1
                                have hR : R = some ⟨cl, a1 + 1, a2, x⟩ := by rw [HS3.out]; unfold M.field; rw [if_pos c1]
                                have HN := Lib.hid (HNX.out _ hR)
                                clear c1 hR
                                go_wp2
                                go_roundw
                                case rel => exact ⟨i + 1, cl, a1 + 1, a2, x, rfl, by go_num, rfl, by go_num, by omega, by omega, HN, by omega, by omega, hx, HGl, HBl⟩
                                case measure => simp [intOf]; omega
                              · have q1 : (Z == [104, 111, 115, 116]) = false := by rw [beq_eq_false_iff_ne]; exact c1
                                by_cases c2 : Z = M.lenW
                                · have q2 : (Z == [99, 111, 110, 116, 101, 110, 116, 45, 108, 101, 110, 103, 116, 104]) = true := by rw [beq_iff_eq]; exact c2
                                  cases hle : M.len9 (bl sT) with
                                  | none =>
                                    have HX := Lib.hid (HFL.out (by rw [HS3.out]; unfold M.field; rw [if_neg c1, if_pos c2, hle]))
                                    rw [hle] at HLE
                                    simp only [lz] at HLE
                                    obtain ⟨x0, x1, x2, x3⟩ := HQl.out.cells
                                    obtain ⟨y0, y1, y2, y3⟩ := HQl.out.free
                                    clear c1 c2 hle
                                    go_wp2_with fail
                                    refine (HLE.out _).mono ?_
                                    rintro e w9 ⟨rfl, rfl⟩
                                    go_wp2
                                    (try simp only [Exit.inBlock, Exit.then])
                                    refine bodyPost_ret (results_row3 rfl _ _ w.heap.size 24 (rqc [] [] [] false) (0, 0) _ rfl (HQl.out.put [] [] [] false) Tryz.underlying24 rfl Tryz.rqSize) rfl ?_
                                    exact ⟨by rw [HX.out]; rfl, below_put4 HBzl.out (Nat.le_refl _) _ _ _ _⟩
                                  | some xx =>
                                    have hR : R = some ⟨cl, a1, a2 + 1, xx⟩ := by rw [HS3.out]; unfold M.field; rw [if_neg c1, if_pos c2, hle]
                                    have HN := Lib.hid (HNX.out _ hR)
                                    have hxx := M.len9_bound hle
                                    rw [hle] at HLE
                                    simp only [lz] at HLE
                                    clear c1 c2 hle hR
                                    go_wp2_with fail
                                    refine (HLE.out _).mono ?_
                                    rintro e w9 ⟨rfl, rfl⟩
                                    go_wp2
                                    go_roundw
                                    case rel => exact ⟨i + 1, cl, a1, a2 + 1, xx, rfl, rfl, by go_num, by go_num, by omega, by omega, HN, by omega, by omega, hxx, HGl, HBl⟩
                                    case measure => simp [intOf]; omega
                                · have q2 : (Z == [99, 111, 110, 116, 101, 110, 116, 45, 108, 101, 110, 103, 116, 104]) = false := by rw [beq_eq_false_iff_ne]; exact c2
                                  by_cases c3 : Z = M.encW
                                  · have q3 : (Z == [116, 114, 97, 110, 115, 102, 101, 114, 45, 101, 110, 99, 111, 100, 105, 110, 103]) = true := by rw [beq_iff_eq]; exact c3
                                    have HX := Lib.hid (HFL.out (by rw [HS3.out]; unfold M.field; rw [if_neg c1, if_neg c2, if_pos c3]))
                                    obtain ⟨x0, x1, x2, x3⟩ := HQl.out.cells
                                    obtain ⟨y0, y1, y2, y3⟩ := HQl.out.free
                                    clear c1 c2 c3
                                    go_wp2
                                    (try simp only [Exit.inBlock, Exit.then])
                                    refine bodyPost_ret (results_row3 rfl _ _ w.heap.size 24 (rqc [] [] [] false) (0, 0) _ rfl (HQl.out.put [] [] [] false) Tryz.underlying24 rfl Tryz.rqSize) rfl ?_
                                    exact ⟨by rw [HX.out]; rfl, below_put4 HBzl.out (Nat.le_refl _) _ _ _ _⟩
                                  · have q3 : (Z == [116, 114, 97, 110, 115, 102, 101, 114, 45, 101, 110, 99, 111, 100, 105, 110, 103]) = false := by rw [beq_eq_false_iff_ne]; exact c3
                                    by_cases c4 : Z = M.conW
                                    · have q4 : (Z == [99, 111, 110, 110, 101, 99, 116, 105, 111, 110]) = true := by rw [beq_iff_eq]; exact c4
                                      have hR : R = some ⟨cl || decide ((bl sT).map M.lowr = M.closeW), a1, a2, x⟩ := by rw [HS3.out]; unfold M.field; rw [if_neg c1, if_neg c2, if_neg c3, if_pos c4]
                                      have HN := Lib.hid (HNX.out _ hR)
                                      clear c1 c2 c3 c4 hR HS3
                                      generalize (bl sT).map M.lowr = V at *
                                      by_cases c5 : V = M.closeW
                                      · have q5 : (V == [99, 108, 111, 115, 101]) = true := by rw [beq_iff_eq]; exact c5
                                        rw [decide_eq_true c5, Bool.or_true] at HN
                                        clear c5
                                        go_wp2_with fail
                                        refine (HLOV.out _).mono ?_
                                        rintro e wm ⟨rfl, hbM⟩
                                        have hgm : g2 ≤ wl.heap.size := Nat.le_of_lt HGl.out.lt
                                        have HBm := Lib.hid (HBl.out.trans (hbM.mono hgm))
                                        have HGm := Lib.hid (HGl.out.on hbM)
                                        obtain ⟨z0, z1, z2, z3⟩ := HGm.out.cells
                                        obtain ⟨v0, v1, v2, v3⟩ := HGm.out.free
                                        clear hbM
                                        go_wp2
                                        go_roundw
                                        case rel => exact ⟨i + 1, true, a1, a2, x, rfl, rfl, rfl, by go_num, by omega, by omega, HN, by omega, by omega, hx, Lib.hid ((heapSet 3 _ HGm.out).trans rfl), Lib.hid (HBm.out.setCell (Nat.le_refl _) _)⟩
                                        case measure => simp [intOf]; omega
                                      · have q5 : (V == [99, 108, 111, 115, 101]) = false := by rw [beq_eq_false_iff_ne]; exact c5
                                        rw [decide_eq_false c5, Bool.or_false] at HN
                                        clear c5
                                        go_wp2_with fail
                                        refine (HLOV.out _).mono ?_
                                        rintro e wm ⟨rfl, hbM⟩
                                        have hgm : g2 ≤ wl.heap.size := Nat.le_of_lt HGl.out.lt
                                        have HBm := Lib.hid (HBl.out.trans (hbM.mono hgm))
                                        have HGm := Lib.hid (HGl.out.on hbM)
                                        clear hbM
                                        go_wp2
                                        go_roundw
                                        case rel => exact ⟨i + 1, cl, a1, a2, x, rfl, rfl, rfl, by go_num, by omega, by omega, HN, by omega, by omega, hx, HGm, HBm⟩
                                        case measure => simp [intOf]; omega
                                    · have q4 : (Z == [99, 111, 110, 110, 101, 99, 116, 105, 111, 110]) = false := by rw [beq_eq_false_iff_ne]; exact c4
                                      have hR : R = some ⟨cl, a1, a2, x⟩ := by rw [HS3.out]; unfold M.field; rw [if_neg c1, if_neg c2, if_neg c3, if_neg c4]
                                      have HN := Lib.hid (HNX.out _ hR)
                                      clear c1 c2 c3 c4 hR HS3
                                      go_wp2
                                      go_roundw
                                      case rel => exact ⟨i + 1, cl, a1, a2, x, rfl, rfl, rfl, by go_num, by omega, by omega, HN, by omega, by omega, hx, HGl, HBl⟩
                                      case measure => simp [intOf]; omega
                      · have HIC := Lib.hid (rfind_none (c := 58) (z := 58) rfl hk58 (by omega))
                        have HX := Lib.hid (HFL.out (by rw [← hstep]; unfold M.lineStep; rw [if_pos (by rw [bl_len]; omega)]))
                        clear hstep
                        go_wp2_with fail
                        refine (HIC.out _).mono ?_
                        rintro e w1 ⟨rfl, rfl⟩
                        go_wp2
                        (try simp only [Exit.inBlock, Exit.then])
                        refine bodyPost_ret (results_row3 rfl _ _ w.heap.size 24 (rqc [] [] [] false) (0, 0) _ rfl (HQr.out.put [] [] [] false) Tryz.underlying24 rfl Tryz.rqSize) rfl ?_
                        exact ⟨by rw [HX.out]; rfl, below_put4 HBz.out (Nat.le_refl _) _ _ _ _⟩
                    · have HLI := Lib.hid (show M.linesF ⟨false, 0, 0, 0⟩ r = some ⟨cl, a1, a2, x⟩ by rw [← HLF.out, List.drop_eq_nil_of_le (by rw [HLN.out]; omega)]; rfl)
                      have hj := M.read_judge HHS.out HF1.out HLI.out
                      rw [M.judge_eq] at hj
                      simp only at hj
                      have hile : n ≤ i := by omega
                      by_cases c1 : a1 = 1
                      · subst c1
                        by_cases c2 : 1 < a2
                        · have HX := Lib.hid (hj.trans (if_pos (.inr c2)))
                          clear hj
                          go_wp2
                          (try simp only [Exit.inBlock, Exit.then])
                          refine bodyPost_ret (results_row3 rfl _ _ w.heap.size 24 (rqc [] [] [] false) (0, 0) _ rfl (HQr.out.put [] [] [] false) Tryz.underlying24 rfl Tryz.rqSize) rfl ?_
                          exact ⟨by rw [HX.out]; rfl, below_put4 HBz.out (Nat.le_refl _) _ _ _ _⟩
                        · rw [if_neg (by omega)] at hj
                          have c2' : a2 ≤ 1 := by omega
                          by_cases c3 : 8192 < x
                          · have HX := Lib.hid (hj.trans (if_pos c3))
                            clear hj
                            go_wp2
                            (try simp only [Exit.inBlock, Exit.then])
                            refine bodyPost_ret (results_row3 rfl _ _ w.heap.size 24 (rqc [] [] [] false) (0, 0) _ rfl (HQr.out.put [] [] [] false) Tryz.underlying24 rfl Tryz.rqSize) rfl ?_
                            exact ⟨by rw [HX.out]; rfl, below_put4 HBz.out (Nat.le_refl _) _ _ _ _⟩
                          · rw [if_neg c3] at hj
                            have c3' : x ≤ 8192 := by omega
                            by_cases c4 : s.size < k + 1 + 1 + x
                            · have HX := Lib.hid (hj.trans (if_pos (by omega)))
                              have c4' : (s.size : Int) - ((k : Int) + 2) < (x : Int) := by omega
                              clear hj
                              go_wp2
                              (try simp only [Exit.inBlock, Exit.then])
                              refine bodyPost_ret (results_row3 rfl _ _ w.heap.size 24 (rqc [] [] [] false) (0, 0) _ rfl (HQr.out.put [] [] [] false) Tryz.underlying24 rfl Tryz.rqSize) rfl ?_
                              exact ⟨by rw [HX.out]; rfl, below_put4 HBz.out (Nat.le_refl _) _ _ _ _⟩
                            · rw [if_neg (by omega)] at hj
                              have c4' : (x : Int) ≤ (s.size : Int) - ((k : Int) + 2) := by omega
                              have c4b : k + 2 + x ≤ s.size := by omega
                              obtain ⟨sB, hsB⟩ : ∃ sB, s.extract (k + 2) (k + 2 + x) = sB := ⟨_, rfl⟩
                              have hbB2 : bl sB = ((bl s).drop (k + 1 + 1)).take x := by rw [← hsB, bl_cut, List.take_drop]
                              rw [← hbB2] at hj
                              have HX := Lib.hid hj
                              obtain ⟨z0, z1, z2, z3⟩ := HG.out.cells
                              obtain ⟨v0, v1, v2, v3⟩ := HG.out.free
                              clear hj hbB2
                              go_wp2
                              (try simp only [Exit.inBlock, Exit.then])
                              have HQ5 : RqIn (wr.setCell ⟨g2, 2, none⟩ (.string sB)) w.heap.size [] [] [] false := heapFar HQr.out hg2n
                              have HP := HQ5.put m pa (bl sB) cl
                              rw [mk_bl] at HP
                              refine bodyPost_ret (results_row3 rfl _ _ w.heap.size 24 (rqc m pa (bl sB) cl) (0, 0) _ rfl HP Tryz.underlying24 rfl Tryz.rqSize) rfl ?_
                              exact ⟨by rw [HX.out]; rfl, below_put4 (HBz.out.setCell (Nat.le_of_lt hlt2) _) (Nat.le_refl _) _ _ _ _⟩
                      · have hb : ((a1 : Int) != 1) = true := by rw [bne_iff_ne]; omega
                        have HX := Lib.hid (hj.trans (if_pos (.inl c1)))
                        clear hj
                        go_wp2
                        (try simp only [Exit.inBlock, Exit.then])
                        refine bodyPost_ret (results_row3 rfl _ _ w.heap.size 24 (rqc [] [] [] false) (0, 0) _ rfl (HQr.out.put [] [] [] false) Tryz.underlying24 rfl Tryz.rqSize) rfl ?_
                        exact ⟨by rw [HX.out]; rfl, below_put4 HBz.out (Nat.le_refl _) _ _ _ _⟩
              · have HN := Lib.hid (HR.out.next hn32 (j := j) (by rw [← hb2]; exact hje) (by rw [← hb2, bl_len]; exact hj) hnear (by rw [← hb2]; exact hno) hend)
                rw [← hb2, ← hbL] at HN
                have HLN := Lib.hid HR.out.len
                have hq : (sL.toList == []) = false ∨ sL = ⟨#[]⟩ ∧ n ≤ 0 := by
                  by_cases h1 : j = 1
                  · right
                    have : lines = [] := Classical.byContradiction fun h => hend ⟨h1, h⟩
                    refine ⟨?_, by rw [← HR.out.len, this]; exact Nat.le_refl 0⟩
                    rw [← mk_bl sL, show bl sL = [] from List.eq_nil_of_length_eq_zero (by rw [hlL]; omega)]
                  · left
                    rw [Lib.toList_data, beq_eq_false_iff_ne]
                    intro e
                    have h9 := hlL
                    rw [show bl sL = [] from e] at h9
                    simp at h9
                    omega
                have HMK := Lib.hid (mk_bl sL)
                clear hround hb2 hz2 hno hje hend hlL hbL hat
                clear x0 x1 x2 x3 y0 y1 y2 y3
                rcases hq with hq | ⟨hq, hqn⟩
                · go_wp2_with fail
                  refine (HIX.out _).mono ?_
                  rintro e w1 ⟨rfl, rfl⟩
                  go_wp2_with (at_builtin; go_must (refine wpList_appV (w1.alloc _) rfl (.tmp 69) (.tmp 71) _ rfl w0.heap.size (w1.heap.size + 1) _ i0 _ 16 Tryz.underlying35 HI.out HZ0.out HZ1.out HZ2.out rfl (.slice A n c) (strs lines) (HO.out.alloc _) rfl (some ⟨w1.heap.size, 0, none⟩) 1 1 [.string sL] (RdV.fresh w1 _ _) rfl (by simp [Value.oneCell']) (by have := HLN.out; simp; omega) (by have := HLN.out; simp; omega) (by have := HB.out.size; simp; omega) ?_))
                  intro v9 w9 hown9 hg9 hat9
                  obtain ⟨A9, c9, rfl, hc9, hcm9⟩ := hown9.form
                  have hlen9 : (strs lines ++ [Value.string sL]).length = n + 1 := by simp [HLN.out]
                  rw [hlen9] at hown9 hc9 ⊢
                  have hB9 : Below w0.heap.size w0 w9 := (HB.out.alloc HB.out.size _).grown hg9 (by have := HB.out.size; simp; omega) (fun k' hk' => (HO.out.lt k' hk').1)
                  have HB9 := Lib.hid hB9
                  have HO9 := Lib.hid (show OwnV w9 w0.heap.size 9 (.slice A9 (n + 1) c9) (strs (lines ++ [bl sL])) by
                    rw [strs_app]
                    have e : strs [bl sL] = [Value.string sL] := by show [Value.string ⟨(bl sL).toArray⟩] = _; rw [mk_bl]
                    rw [e]; exact hown9)
                  clear hown9 hg9 hat9 hB9 hlen9
                  go_wp2
                  go_roundw
                  case rel => exact ⟨n + 1, k + j + 1, c9, A9, lines ++ [bl sL], rfl, by go_num, by omega, by omega, by omega, HN, HO9, HB9⟩
                  case measure => simp [lenv]; omega
                · subst hq
                  go_wp2_with fail
                  refine (HIX.out _).mono ?_
                  rintro e w1 ⟨rfl, rfl⟩
                  go_wp2_with (at_builtin; go_must (refine wpList_appV (w1.alloc _) rfl (.tmp 69) (.tmp 71) _ rfl w0.heap.size (w1.heap.size + 1) _ i0 _ 16 Tryz.underlying35 HI.out HZ0.out HZ1.out HZ2.out rfl (.slice A n c) (strs lines) (HO.out.alloc _) rfl (some ⟨w1.heap.size, 0, none⟩) 1 1 [.string ⟨#[]⟩] (RdV.fresh w1 _ _) rfl (by simp [Value.oneCell']) (by have := HLN.out; simp; omega) (by have := HLN.out; simp; omega) (by have := HB.out.size; simp; omega) ?_))
                  intro v9 w9 hown9 hg9 hat9
                  obtain ⟨A9, c9, rfl, hc9, hcm9⟩ := hown9.form
                  have hlen9 : (strs lines ++ [Value.string ⟨#[]⟩]).length = n + 1 := by simp [HLN.out]
                  rw [hlen9] at hown9 hc9 ⊢
                  have hB9 : Below w0.heap.size w0 w9 := (HB.out.alloc HB.out.size _).grown hg9 (by have := HB.out.size; simp; omega) (fun k' hk' => (HO.out.lt k' hk').1)
                  have HB9 := Lib.hid hB9
                  have HO9 := Lib.hid (show OwnV w9 w0.heap.size 9 (.slice A9 (n + 1) c9) (strs (lines ++ [bl ⟨#[]⟩])) by
                    rw [strs_app]
                    have e : strs [bl ⟨#[]⟩] = [Value.string ⟨#[]⟩] := by show [Value.string ⟨(bl ⟨#[]⟩).toArray⟩] = _; rw [mk_bl]
                    rw [e]; exact hown9)
                  clear hown9 hg9 hat9 hB9 hlen9
                  go_wp2
                  go_roundw
                  case rel => exact ⟨n + 1, k + j + 1, c9, A9, lines ++ [bl ⟨#[]⟩], rfl, by go_num, by omega, by omega, by omega, HN, HO9, HB9⟩
                  case measure => simp [lenv]; omega
            · have hno : j = 0 ∨ (bl s2)[j - 1]? ≠ some 13 := by
                refine .inr fun h => hy13 ?_
                rw [hat] at h
                injection h with h
                rw [← hy, h]; rfl
              have hyb : ((y : Int) != 13) = true := by rw [bne_iff_ne]; omega
              have HX := Lib.hid (M.read_no (show M.heads (bl s) = .no 400 by rw [hround, if_neg (by rw [bl_len]; omega), if_neg hfar, if_pos hno]))
              clear hround hb2 hz2 hno hje hat
              go_wp2_with fail
              refine (HIX.out _).mono ?_
              rintro e w1 ⟨rfl, rfl⟩
              go_wp2
              (try simp only [Exit.inBlock, Exit.then])
              refine bodyPost_ret (results_row3 rfl _ _ w.heap.size 24 (rqc [] [] [] false) (0, 0) _ rfl (HQ.out.put [] [] [] false) Tryz.underlying24 rfl Tryz.rqSize) rfl ?_
              exact ⟨by rw [HX.out]; rfl, below_put4 HBB.out (Nat.le_refl _) _ _ _ _⟩
      · have HIX := Lib.hid (rfind_none (c := 10) (z := 10) rfl hj (by omega))
        by_cases hlong : 2048 < s.size
        · have HX := Lib.hid (M.read_no (show M.heads (bl s) = .no 431 by rw [hround, if_pos (by rw [bl_len]; omega), if_pos (by omega)]))
          clear hround hb2 hz2 hj
          go_wp2_with fail
          refine (HIX.out _).mono ?_
          rintro e w1 ⟨rfl, rfl⟩
          go_wp2
          (try simp only [Exit.inBlock, Exit.then])
          refine bodyPost_ret (results_row3 rfl _ _ w.heap.size 24 (rqc [] [] [] false) (0, 0) _ rfl (HQ.out.put [] [] [] false) Tryz.underlying24 rfl Tryz.rqSize) rfl ?_
          exact ⟨by rw [HX.out]; rfl, below_put4 HBB.out (Nat.le_refl _) _ _ _ _⟩
        · have HX := Lib.hid (M.read_no (show M.heads (bl s) = .no 0 by rw [hround, if_pos (by rw [bl_len]; omega), if_neg (by omega)]))
          have hshort : s.size ≤ 2048 := by omega
          clear hround hb2 hz2 hj
          go_wp2_with fail
          refine (HIX.out _).mono ?_
          rintro e w1 ⟨rfl, rfl⟩
          go_wp2
          (try simp only [Exit.inBlock, Exit.then])
          refine bodyPost_ret (results_row3 rfl _ _ w.heap.size 24 (rqc [] [] [] false) (0, 0) _ rfl (HQ.out.put [] [] [] false) Tryz.underlying24 rfl Tryz.rqSize) rfl ?_
          exact ⟨by rw [HX.out]; rfl, below_put4 HBB.out (Nat.le_refl _) _ _ _ _⟩
end Go.Proofs.YthgfjfljiadllaaGreatDoor
