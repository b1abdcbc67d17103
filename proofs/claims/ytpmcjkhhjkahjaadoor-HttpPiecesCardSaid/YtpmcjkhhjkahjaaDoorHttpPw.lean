/-
  The law HttpPieces, by the contracts.
-/
import Derived.Test.YtpmcjkhhjkahjaaDoorHttpBw
namespace Go.Proofs.YtpmcjkhhjkahjaaDoor
open Go.RowKit Mem Go.Sort
set_option linter.unusedVariables false
set_option maxRecDepth 100000

/-- a request's bytes -/
def rqBytes (b : List UInt8) (last : Bool) : List UInt8 := M.rqHead 97 b.length last ++ b
def rqStr (b : ByteArray) (last : Bool) : ByteArray := ⟨(rqBytes (bl b) last).toArray⟩
theorem rqStr_bl (b : ByteArray) (last : Bool) : bl (rqStr b last) = rqBytes (bl b) last := rfl
theorem rqStr_size (b : ByteArray) (last : Bool) : (rqStr b last).size = (rqBytes (bl b) last).length := rfl
theorem req_true (k : Nat) (R b : ByteArray) (hR : bl R = Lib.decDigits k) (hk : k = (bl b).length) :
    (((⟨#[80, 79, 83, 84, 32, 47, 100, 111, 99, 115, 32, 72, 84, 84, 80, 47, 49, 46, 49, 13, 10, 72, 111, 115, 116, 58, 32, 97, 13, 10, 67, 111, 110, 116, 101, 110, 116, 45, 76, 101, 110, 103, 116, 104, 58, 32]⟩ ++ R) ++ ⟨#[13, 10]⟩ ++ ⟨#[67, 111, 110, 110, 101, 99, 116, 105, 111, 110, 58, 32, 67, 108, 111, 115, 101, 13, 10]⟩) ++ ⟨#[13, 10]⟩) ++ b = rqStr b true := by
  apply ByteArray.ext
  apply Array.toList_inj.1
  show bl _ = bl (rqStr b true)
  rw [rqStr_bl, bl_cat, bl_cat, bl_cat, bl_cat, bl_cat, hR]
  unfold rqBytes
  show _ = (M.rq0 ++ 13 :: 10 :: (M.rq1 97 ++ 13 :: 10 :: (M.rq2 (bl b).length ++ 13 :: 10 :: M.rqEnd true))) ++ bl b
  rw [← hk]
  unfold M.rq2 M.rqEnd
  simp [M.rq0, M.rq1, M.rqC, M.rq3, bl]
theorem req_false (k : Nat) (R b : ByteArray) (hR : bl R = Lib.decDigits k) (hk : k = (bl b).length) :
    (((⟨#[80, 79, 83, 84, 32, 47, 100, 111, 99, 115, 32, 72, 84, 84, 80, 47, 49, 46, 49, 13, 10, 72, 111, 115, 116, 58, 32, 97, 13, 10, 67, 111, 110, 116, 101, 110, 116, 45, 76, 101, 110, 103, 116, 104, 58, 32]⟩ ++ R) ++ ⟨#[13, 10]⟩) ++ ⟨#[13, 10]⟩) ++ b = rqStr b false := by
  apply ByteArray.ext
  apply Array.toList_inj.1
  show bl _ = bl (rqStr b false)
  rw [rqStr_bl, bl_cat, bl_cat, bl_cat, bl_cat, hR]
  unfold rqBytes
  show _ = (M.rq0 ++ 13 :: 10 :: (M.rq1 97 ++ 13 :: 10 :: (M.rq2 (bl b).length ++ 13 :: 10 :: M.rqEnd false))) ++ bl b
  rw [← hk]
  unfold M.rq2 M.rqEnd
  simp [M.rq0, M.rq1, M.rqC, bl]
theorem head_heads (b : List UInt8) (last : Bool) (hb : b.length ≤ 8192) (r : List UInt8) : M.heads (M.rqHead 97 b.length last ++ r) = .yes ([M.rq0, M.rq1 97, M.rq2 b.length] ++ (if last then [M.rq3] else [])) (M.rqHead 97 b.length last).length := M.rq_heads 97 (by decide) b.length (by omega) last r
theorem whole_read (b : List UInt8) (last : Bool) (hb : b.length ≤ 8192) (r : List UInt8) : M.read (rqBytes b last ++ r) = (⟨[80, 79, 83, 84], [47, 100, 111, 99, 115], b, last⟩, (rqBytes b last).length, 0) := by
  unfold rqBytes
  rw [List.append_assoc, M.rq_read 97 (by decide) (by decide) b.length (by omega) last, if_neg (by omega), if_neg (by simp), List.take_left' rfl, List.length_append]
theorem cut_read (b : List UInt8) (last : Bool) (hb : b.length ≤ 8192) {c : Nat} (hc : c < (rqBytes b last).length) : M.read ((rqBytes b last).take c) = (M.noRq, 0, 0) := by
  have hlen : (rqBytes b last).length = (M.rqHead 97 b.length last).length + b.length := by unfold rqBytes; rw [List.length_append]
  by_cases h : (M.rqHead 97 b.length last).length ≤ c
  · have e : (rqBytes b last).take c = M.rqHead 97 b.length last ++ b.take (c - (M.rqHead 97 b.length last).length) := by
      unfold rqBytes
      rw [List.take_append, List.take_of_length_le h]
    rw [e, M.rq_read 97 (by decide) (by decide) b.length (by omega) last, if_neg (by omega), if_pos (by rw [List.length_take]; omega)]
  · have hh := M.heads_cut (n := c) (head_heads b last hb b)
    rw [if_neg h] at hh
    unfold M.read
    show (match M.heads ((rqBytes b last).take c) with | .no s => (M.noRq, 0, s) | .yes lines k => M.readLines ((rqBytes b last).take c) k lines) = _
    unfold rqBytes
    rw [hh]
theorem rqBytes_len (b : List UInt8) (last : Bool) (hb : b.length ≤ 8192) : 0 < (rqBytes b last).length ∧ (rqBytes b last).length ≤ 8300 := by
  unfold rqBytes
  have := M.dec_len (n := b.length) (k := 4) (by omega) (by omega)
  rw [List.length_append, M.rqHead_len]
  cases last <;> simp <;> omega
theorem mk_self (b : ByteArray) : (⟨(bl b).toArray⟩ : ByteArray) = b := by
  apply ByteArray.ext
  simp

set_option maxHeartbeats 4000000 in
theorem request_any (b : ByteArray) (last : Bool) (w : World) (hb : b.size ≤ 8192) : Calls Tryd.prog 7 #[.string b, .bool last] w fun e w' => e = .returned (.string (rqStr b last)) ∧ Below w.heap.size w w' := by
  obtain ⟨k, hk⟩ : ∃ k, k = b.size := ⟨_, rfl⟩
  obtain ⟨R, hR⟩ : ∃ R : ByteArray, R = ⟨(Lib.decDigits k).toArray⟩ := ⟨_, rfl⟩
  have HDK := Lib.hid (fun W => dec_any k W (by omega))
  unfold SaysT at HDK
  rw [← hR] at HDK
  have hRs : R.size ≤ 4 := by
    have h1 : R.size = (Lib.decDigits k).length := by rw [hR]; rfl
    have h2 := M.dec_len (n := k) (k := 4) (by omega) (by omega)
    omega
  have HCT := Lib.hid (req_true k R b (by rw [hR]) (by rw [hk, bl_len]))
  have HCF := Lib.hid (req_false k R b (by rw [hR]) (by rw [hk, bl_len]))
  have hs1 : ¬ 9223372036854775807 < 46 + R.size := by omega
  have hs2 : ¬ 9223372036854775807 < 46 + R.size + 2 := by omega
  have hs3 : ¬ 9223372036854775807 < 46 + R.size + 2 + 19 := by omega
  have hs4 : ¬ 9223372036854775807 < 46 + R.size + 2 + 19 + 2 := by omega
  have hs5 : ¬ 9223372036854775807 < 46 + R.size + 2 + 19 + 2 + b.size := by omega
  have hs6 : ¬ 9223372036854775807 < 46 + R.size + 2 + 2 := by omega
  have hs7 : ¬ 9223372036854775807 < 46 + R.size + 2 + 2 + b.size := by omega
  have HK := Lib.hid hk.symm
  rw [hk] at HDK
  clear hR hk
  cases last
  all_goals
    go_enter Tryd.func7, Tryd.ntmps7
    go_wp2_with fail
    refine (HDK.out w).mono ?_
    rintro e w1 ⟨rfl, hb1⟩
    have HB1 := Lib.hid hb1
    clear hb1
    go_wp2
    go_ret
    refine ⟨?_, HB1.out⟩
    first
      | (have h := HCT.out; rw [← h]; rfl)
      | (have h := HCF.out; rw [← h]; rfl)

set_option maxHeartbeats 8000000 in
theorem httpPieces_any (B N : ByteArray) (last : Bool) (cut : Nat) (hcut : cut < 65536) (w : World) (hV : Vars w) :
    Calls Tryd.prog 3 #[.string B, .string N, .bool last, .int .u16 (cut : Int)] w fun e w' => e = .returned (.bool true) ∧ Below w.heap.size w w' := by
  have HA := Lib.hid (fun w1 (hb : Below w.heap.size w w1) => awake_any w1 (hV.below hb))
  by_cases hB : 8192 < B.size
  · clear hV
    go_enter Tryd.func3, Tryd.ntmps3
    go_wp2_with fail
    refine (HA.out w (Below.refl _ _)).mono ?_
    rintro e w1 ⟨rfl, hb1⟩
    have HB1 := Lib.hid hb1
    clear hb1
    go_wp2_with fail
    refine (HA.out w1 HB1.out).mono ?_
    rintro e w2 ⟨rfl, hb2⟩
    have HB2 := Lib.hid (HB1.out.trans (hb2.mono HB1.out.size))
    clear hb2
    go_wp2
    go_ret
    exact ⟨rfl, HB2.out⟩
  by_cases hN : 8192 < N.size
  · clear hV
    go_enter Tryd.func3, Tryd.ntmps3
    go_wp2_with fail
    refine (HA.out w (Below.refl _ _)).mono ?_
    rintro e w1 ⟨rfl, hb1⟩
    have HB1 := Lib.hid hb1
    clear hb1
    go_wp2_with fail
    refine (HA.out w1 HB1.out).mono ?_
    rintro e w2 ⟨rfl, hb2⟩
    have HB2 := Lib.hid (HB1.out.trans (hb2.mono HB1.out.size))
    clear hb2
    go_wp2
    go_ret
    exact ⟨rfl, HB2.out⟩
  have hBl : (bl B).length ≤ 8192 := by rw [bl_len]; omega
  have hNl : (bl N).length ≤ 8192 := by rw [bl_len]; omega
  have HR := Lib.hid (fun (s : ByteArray) w1 (hb : Below w.heap.size w w1) (hs : s.size ≤ 281474976710656) => Read_any s w1 hs (hV.below hb))
  have HQB := Lib.hid (fun W => request_any B last W (by omega))
  have HQN := Lib.hid (fun W => request_any N false W (by omega))
  obtain ⟨P, hP⟩ : ∃ P, P = rqStr B last := ⟨_, rfl⟩
  obtain ⟨Q, hQ⟩ : ∃ Q, Q = rqStr N false := ⟨_, rfl⟩
  have hPl := rqBytes_len (bl B) last hBl
  have hQl := rqBytes_len (bl N) false hNl
  have HPS := Lib.hid (show P.size = (rqBytes (bl B) last).length by rw [hP]; rfl)
  have HQS := Lib.hid (show Q.size = (rqBytes (bl N) false).length by rw [hQ]; rfl)
  have HPB := Lib.hid (show bl P = rqBytes (bl B) last by rw [hP]; rfl)
  have HQB2 := Lib.hid (show bl Q = rqBytes (bl N) false by rw [hQ]; rfl)
  rw [← hP] at HQB
  rw [← hQ] at HQN
  clear hP hQ hV
  have hP0 : 0 < P.size := by have := HPS.out; omega
  have hP1 : P.size ≤ 8300 := by have := HPS.out; omega
  have hQ1 : Q.size ≤ 8300 := by have := HQS.out; omega
  clear hPl hQl
  obtain ⟨c, hc⟩ : ∃ c, c = cut % P.size := ⟨_, rfl⟩
  have hcP : c < P.size := by rw [hc]; exact Nat.mod_lt _ hP0
  have HCI := Lib.hid (show (cut : Int) % (P.size : Int) = (c : Int) by rw [hc, Int.natCast_emod])
  clear hc
  have hPn : ¬ (P.size : Int) = 0 := by omega
  have hcI : (c : Int) ≤ (P.size : Int) := by omega
  have hs1 : ¬ 9223372036854775807 < P.size + Q.size := by omega
  go_enter Tryd.func3, Tryd.ntmps3
  go_wp2_with fail
  refine (HA.out w (Below.refl _ _)).mono ?_
  rintro e w1 ⟨rfl, hb1⟩
  have HB1 := Lib.hid hb1
  clear hb1
  go_wp2_with fail
  refine (HQB.out w1).mono ?_
  rintro e w2 ⟨rfl, hb2⟩
  have HB2 := Lib.hid (HB1.out.trans (hb2.mono HB1.out.size))
  clear hb2
  go_upto_region 5 with (fail)
  rw [HCI.out]
  have HR1 := Lib.hid (HR.out (P.extract 0 c) w2 HB2.out (by rw [ByteArray.size_extract]; omega))
  rw [bl_cut, HPB.out, List.drop_zero, cut_read (bl B) last hBl (by have := HPS.out; omega)] at HR1
  unfold TellsR at HR1
  simp only [M.noRq, rqv] at HR1
  go_wp2_with fail
  refine HR1.out.mono ?_
  rintro e w3 ⟨rfl, hb3⟩
  have HB3 := Lib.hid (HB2.out.trans (hb3.mono HB2.out.size))
  clear hb3 hPn hcI HR1
  obtain ⟨w4, hw4⟩ : ∃ w4, w4 = w3.alloc (.cells #[.string ⟨#[]⟩, .string ⟨#[]⟩, .string ⟨#[]⟩, .bool false] 26) := ⟨_, rfl⟩
  have HB4 := Lib.hid (show Below w.heap.size w w4 by rw [hw4]; exact HB3.out.alloc HB3.out.size _)
  have HW4 := Lib.hid hw4.symm
  clear hw4
  go_upto_region 6 with (fail)
  rw [HW4.out]
  go_wp2_with fail
  refine (HQN.out w4).mono ?_
  rintro e w5 ⟨rfl, hb5⟩
  have HB5 := Lib.hid (HB4.out.trans (hb5.mono HB4.out.size))
  clear hb5
  have HR2 := Lib.hid (HR.out (P ++ Q) w5 HB5.out (by rw [ByteArray.size_append]; omega))
  rw [bl_cat, HPB.out, whole_read (bl B) last hBl, ← HPS.out] at HR2
  unfold TellsR at HR2
  simp only [rqv] at HR2
  rw [mk_self] at HR2
  go_wp2_with fail
  refine HR2.out.mono ?_
  rintro e w6 ⟨rfl, hb6⟩
  have HB6 := Lib.hid (HB5.out.trans (hb6.mono HB5.out.size))
  clear hb6 HR2
  obtain ⟨DL, hDL⟩ : ∃ DL : ByteArray, DL = ⟨[47, 100, 111, 99, 115].toArray⟩ := ⟨_, rfl⟩
  obtain ⟨PL, hPL⟩ : ∃ PL : ByteArray, PL = ⟨[80, 79, 83, 84].toArray⟩ := ⟨_, rfl⟩
  obtain ⟨w7, hw7⟩ : ∃ w7, w7 = w6.alloc (.cells #[.string ⟨[80, 79, 83, 84].toArray⟩, .string ⟨[47, 100, 111, 99, 115].toArray⟩, .string B, .bool last] 26) := ⟨_, rfl⟩
  obtain ⟨g7, hg7⟩ : ∃ g7, g7 = w6.heap.size := ⟨_, rfl⟩
  have HX7 := Lib.hid (show w7.heap[g7]? = some (.cells #[.string ⟨[80, 79, 83, 84].toArray⟩, .string ⟨[47, 100, 111, 99, 115].toArray⟩, .string B, .bool last] 26 (0, 0)) by rw [hw7, hg7]; exact heap_alloc_new w6 _)
  have HB7 := Lib.hid (show Below w.heap.size w w7 by rw [hw7]; exact HB6.out.alloc HB6.out.size _)
  have HW7 := Lib.hid hw7.symm; have HG7 := Lib.hid hg7.symm
  clear hw7 hg7 hDL hPL
  go_upto_region 7 with (fail)
  rw [HW7.out, HG7.out]
  go_wp2_with fail
  refine (HQN.out w7).mono ?_
  rintro e w8 ⟨rfl, hb8⟩
  have HB8 := Lib.hid (HB7.out.trans (hb8.mono HB7.out.size))
  have HX8 := Lib.hid ((hb8.block g7 (heapLt HX7.out)).trans HX7.out)
  clear hb8
  have HR3 := Lib.hid (HR.out Q w8 HB8.out (by omega))
  rw [HQB2.out, ← List.append_nil (rqBytes (bl N) false), whole_read (bl N) false hNl, ← HQS.out] at HR3
  unfold TellsR at HR3
  simp only [rqv] at HR3
  rw [mk_self] at HR3
  go_wp2_with fail
  refine HR3.out.mono ?_
  rintro e w9 ⟨rfl, hb9⟩
  have HB9 := Lib.hid (HB8.out.trans (hb9.mono HB8.out.size))
  have HX9 := Lib.hid ((hb9.block g7 (heapLt HX8.out)).trans HX8.out)
  clear hb9 HR3
  obtain ⟨wa, hwa⟩ : ∃ wa, wa = w9.alloc (.cells #[.string ⟨[80, 79, 83, 84].toArray⟩, .string ⟨[47, 100, 111, 99, 115].toArray⟩, .string N, .bool false] 26) := ⟨_, rfl⟩
  obtain ⟨ga, hga⟩ : ∃ ga, ga = w9.heap.size := ⟨_, rfl⟩
  have HXA := Lib.hid (show wa.heap[ga]? = some (.cells #[.string ⟨[80, 79, 83, 84].toArray⟩, .string ⟨[47, 100, 111, 99, 115].toArray⟩, .string N, .bool false] 26 (0, 0)) by rw [hwa, hga]; exact heap_alloc_new w9 _)
  have HX7A := Lib.hid (show wa.heap[g7]? = some (.cells #[.string ⟨[80, 79, 83, 84].toArray⟩, .string ⟨[47, 100, 111, 99, 115].toArray⟩, .string B, .bool last] 26 (0, 0)) by rw [hwa]; exact heapOld HX9.out)
  have HBA := Lib.hid (show Below w.heap.size w wa by rw [hwa]; exact HB9.out.alloc HB9.out.size _)
  have HWA := Lib.hid hwa.symm; have HGA := Lib.hid hga.symm
  clear hwa hga
  go_upto_region 8 with (fail)
  rw [HWA.out, HGA.out]
  have q1 : wa.cell? ⟨g7, 1, none⟩ = some (.string ⟨[47, 100, 111, 99, 115].toArray⟩) := cellAt 1 HX7A.out
  have q2 : wa.cell? ⟨g7, 2, none⟩ = some (.string B) := cellAt 2 HX7A.out
  have q3 : wa.cell? ⟨g7, 3, none⟩ = some (.bool last) := cellAt 3 HX7A.out
  have hll : (last == last) = true := by simp
  have hBB : (B.toList == B.toList) = true := by simp
  have hNN : (N.toList == N.toList) = true := by simp
  go_wp2_with fail
  refine (HQN.out wa).mono ?_
  rintro e wb ⟨rfl, hbb⟩
  have HBB := Lib.hid (HBA.out.trans (hbb.mono HBA.out.size))
  have hxb := (hbb.block ga (heapLt HXA.out)).trans HXA.out
  have r2 : wb.cell? ⟨ga, 2, none⟩ = some (.string N) := cellAt 2 hxb
  clear hbb hxb q1 q2 q3
  go_wp2
  go_ret
  exact ⟨by first | rfl | simp, HBB.out⟩
end Go.Proofs.YtpmcjkhhjkahjaaDoor
