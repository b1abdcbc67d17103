/-
  The law HttpLines, by the contracts.
-/
import Derived.Test.YtpmcjkhhjkahjaaDoorHttpN
import Derived.Test.YtpmcjkhhjkahjaaDoorHttpLn
import Derived.Test.YtpmcjkhhjkahjaaDoorMemB
namespace Go.Proofs.YtpmcjkhhjkahjaaDoor
open Go.RowKit Mem Go.Sort
set_option linter.unusedVariables false
set_option maxRecDepth 100000

theorem bl_cat (a b : ByteArray) : bl (a ++ b) = bl a ++ bl b := by
  unfold bl
  simp
theorem Own.zeros (w : World) (n : Nat) (hn : n ≤ 1000000) : Own (w.alloc (.cells (madeCells #[.int .u8 0] n) 5)) w.heap.size 5 (.slice (some ⟨w.heap.size, 0, none⟩) n n) (List.replicate n 0) := by
  have hs : (madeCells #[Value.int .u8 0] n).toList = bcells (List.replicate n 0) := by
    rw [toList_madeCells_one, bcells, List.map_replicate]
    rfl
  have hl : (madeCells #[Value.int .u8 0] n).size = n := by
    rw [← Array.length_toList, hs]; simp [bcells]
  refine ⟨by simp [bcells], .inr ⟨w.heap.size, n, madeCells #[.int .u8 0] n, by simp, Nat.le_refl _, heap_alloc_new w _, by simp, by simp only [maxLen]; omega, by omega, ?_⟩⟩
  rw [hs, Nat.mul_one, List.take_of_length_le (by simp [bcells])]
def fill (l j : Nat) : List UInt8 := List.replicate j 98 ++ List.replicate (l - j) 0
theorem fill_len {l j : Nat} (h : j ≤ l) : (fill l j).length = l := by simp [fill]; omega
theorem fill_set {l j : Nat} (h : j < l) : (fill l j).set j 98 = fill l (j + 1) := by
  unfold fill
  rw [List.set_append_right _ _ (by simp), List.length_replicate, Nat.sub_self]
  obtain ⟨m, hm⟩ : ∃ m, l - j = m + 1 := ⟨l - j - 1, by omega⟩
  rw [hm, show l - (j + 1) = m by omega, List.replicate_succ, List.set_cons_zero, List.replicate_succ', List.append_assoc]
  rfl
theorem fill_all (l : Nat) : fill l l = List.replicate l 98 := by simp [fill]
theorem Tryd.infoU8 : (Tryd.prog.info? 5).map (fun i => (i.zero, i.size, i.bytes)) = some (some (.int .u8 0), 1, 1) := by kernel_rfl

theorem Own.atB {w : World} {base g n c : Nat} {e : TypeId} {bs : List UInt8} (h : Own w base e (.slice (some ⟨g, 0, none⟩) n c) bs) {j : Nat} (hj : j < bs.length) :
    w.cell? ⟨g, j, none⟩ = some (.int .u8 ((bs[j]?.getD 0).toNat : Int)) ∧ w.frozen? ⟨g, j, none⟩ = false ∧ base ≤ g ∧ n = bs.length := by
  obtain ⟨A, c', e1, hr⟩ := h.open_
  injection e1 with e1 e2 e3
  subst e2
  have hx : w.ownsRow base e 1 (.slice (some ⟨g, 0, none⟩) bs.length c) bs.length (bcells bs) := h
  refine ⟨?_, World.ownsRow.frozenAt hx j, (World.ownsRow.lt hx g rfl).1, rfl⟩
  rw [World.ownsRow.cellAt hx j (by omega), bcells_at hj]
theorem Own.putB {w : World} {base g n c : Nat} {e : TypeId} {bs : List UInt8} (h : Own w base e (.slice (some ⟨g, 0, none⟩) n c) bs) (j : Nat) (b : UInt8) (hn : n = bs.length) : Own (w.setCell ⟨g, j, none⟩ (.int .u8 (b.toNat : Int))) base e (.slice (some ⟨g, 0, none⟩) n c) (bs.set j b) := by
  subst hn
  exact Own.stored h j b

set_option maxHeartbeats 4000000 in
theorem httpLines_any (n long : Nat) (hn : n < 256) (hl : long < 65536) (w : World) (hV : Vars w) :
    Calls Tryd.prog 4 #[.int .u8 (n : Int), .int .u16 (long : Int)] w fun e w' => e = .returned (.bool true) ∧ Below w.heap.size w w' := by
  obtain ⟨k, hk⟩ : ∃ k, k = n % 40 := ⟨_, rfl⟩
  obtain ⟨l, hll⟩ : ∃ l, l = long % 3000 := ⟨_, rfl⟩
  have HKI := Lib.hid (show (n : Int) % 40 = (k : Int) by omega)
  have HLI := Lib.hid (show (long : Int) % 3000 = (l : Int) by omega)
  have hk40 : k < 40 := by omega
  have hl3 : l < 3000 := by omega
  have HA := Lib.hid (awake_any w hV)
  have HR := Lib.hid (fun (s : ByteArray) w1 (hb : Below w.heap.size w w1) (hs : s.size ≤ 281474976710656) => Read_any s w1 hs (hV.below hb))
  have HLR := Lib.hid (M.ln_read hk40)
  have HLL := Lib.hid (M.long_read l)
  clear hV hk hll
  go_enter Tryd.func4, Tryd.ntmps4
  go_wp2_with fail
  refine HA.out.mono ?_
  rintro e w1 ⟨rfl, hb1⟩
  have HB1 := Lib.hid hb1
  clear hb1
  go_wp2
  rw [HKI.out]
  go_loopw [6, 7] (fun p q wr => ∃ (i : Nat) (S : ByteArray), p = .string S ∧ q = .int .i64 (i : Int) ∧ i ≤ k ∧ Hid (bl S = M.lnMany i) ∧ wr = w1) (fun _ q _ => k - (intOf q).toNat)
  case atStart => exact ⟨0, _, rfl, rfl, Nat.zero_le _, Lib.hid rfl, rfl⟩
  case round =>
    obtain ⟨i, S, rfl, rfl, hi, HS, rfl⟩ := hrel
    have hsz : S.size = 30 + 6 * i := by rw [← bl_len, HS.out, M.lnMany_len]
    have hszb : S.size ≤ 1000 := by omega
    have hszn : ¬ 9223372036854775807 < S.size + 6 := by omega
    have hszm : ¬ 9223372036854775807 < S.size + 2 := by omega
    have HSZ := Lib.hid hsz
    clear hsz
    by_cases hik : i < k
    · have HS2 := Lib.hid (show bl (S ++ ⟨#[97, 58, 32, 98, 13, 10]⟩) = M.lnMany (i + 1) by rw [bl_cat, HS.out]; rfl)
      go_wp2
      exact ⟨⟨i + 1, _, rfl, by go_num, by omega, HS2, by first | rfl | trivial⟩, by simp [intOf]; omega⟩
    · obtain rfl : i = k := by omega
      have HRQ := Lib.hid (HR.out (S ++ ⟨#[13, 10]⟩) wr HB1.out (by rw [ByteArray.size_append]; show S.size + 2 ≤ _; omega))
      rw [bl_cat, HS.out] at HRQ
      have HRV : Hid ((M.read (M.lnMany i ++ bl ⟨#[13, 10]⟩)).2 = if 30 < i then (0, 431) else (32 + 6 * i, 0)) := HLR
      unfold TellsR at HRQ
      obtain ⟨⟨⟨m, pa, body, cl⟩, mm, st⟩, hrr⟩ : ∃ r, r = M.read (M.lnMany i ++ bl ⟨#[13, 10]⟩) := ⟨_, rfl⟩
      rw [← hrr] at HRQ HRV
      clear hrr HLR
      simp only at HRQ HRV
      have hcase : (30 < i ∧ mm = 0 ∧ st = 431) ∨ (¬ 30 < i ∧ mm = S.size + 2 ∧ st = 0) := by
        have h := HRV.out
        by_cases h3 : 30 < i
        · rw [if_pos h3] at h; injection h with h1 h2; exact .inl ⟨h3, h1, h2⟩
        · rw [if_neg h3] at h; injection h with h1 h2; exact .inr ⟨h3, by have := HSZ.out; omega, h2⟩
      have hwz : IntKind.i64.wrap ((S.size : Int) + 2) = (S.size : Int) + 2 := by rw [IntKind.wrap_i64]; omega
      have hmk := run_make_row' (P := Tryd.prog) 30 5 (.int .u8 0) 1 Tryd.underlying30 Tryd.infoU8 rfl .i64 .i64 l (by omega) (by omega)
      rcases hcase with ⟨h30, rfl, rfl⟩ | ⟨h30, rfl, rfl⟩
      all_goals
        go_wp2_with fail
        refine HRQ.out.mono ?_
        rintro e w2 ⟨rfl, hb2⟩
        simp only [rqv]
        obtain ⟨w3, hw3⟩ : ∃ w3, w3 = w2.alloc (.cells #[.string ⟨m.toArray⟩, .string ⟨pa.toArray⟩, .string ⟨body.toArray⟩, .bool cl] 26) := ⟨_, rfl⟩
        have HB3 := Lib.hid (show Below w.heap.size w w3 by rw [hw3]; exact (HB1.out.trans (hb2.mono HB1.out.size)).alloc (Nat.le_trans HB1.out.size hb2.size) _)
        have HW3 := Lib.hid hw3.symm
        clear hw3 hb2
        go_upto_region 10 with (fail)
        rw [HW3.out]
        obtain ⟨w4, hw4⟩ : ∃ w4, w4 = w3.alloc (.cells (madeCells #[.int .u8 0] l) 5) := ⟨_, rfl⟩
        obtain ⟨g, hg⟩ : ∃ g, g = w3.heap.size := ⟨_, rfl⟩
        have HO4 := Lib.hid (show Own w4 w.heap.size 5 (.slice (some ⟨g, 0, none⟩) l l) (fill l 0) by
          rw [hw4, hg]
          have h := (Own.zeros w3 l (by omega)).less HB3.out.size
          simpa [fill] using h)
        have HB4 := Lib.hid (show Below w.heap.size w w4 by rw [hw4]; exact HB3.out.alloc HB3.out.size _)
        have HW4 := Lib.hid hw4.symm; have HG := Lib.hid hg.symm
        clear hw4 hg
        go_upto_region 16 with (fail)
        rw [HLI.out]
        go_upto_region 17 with (fail)
        rw [HW4.out, HG.out]
        clear hmk hwz hszb hszn hszm
        go_wp2
        go_loopw [13] (fun p wy => ∃ j : Nat, p = .int .i64 (j : Int) ∧ j ≤ l ∧ Hid (Own wy w.heap.size 5 (.slice (some ⟨g, 0, none⟩) l l) (fill l j)) ∧ Hid (Below w.heap.size w wy)) (fun p _ => l - (intOf p).toNat)
        case atStart => exact ⟨0, rfl, Nat.zero_le _, HO4, HB4⟩
        case round =>
          clear HO4 HB4
          obtain ⟨j, rfl, hj, HO, HB⟩ := hrel
          rename World => wy
          by_cases hjl : j < l
          · obtain ⟨hc, hfz, hgb, hnl⟩ := Own.atB HO.out (j := j) (by rw [fill_len hj]; exact hjl)
            have HON := Lib.hid (show Own (wy.setCell ⟨g, j, none⟩ (.int .u8 98)) w.heap.size 5 (.slice (some ⟨g, 0, none⟩) l l) (fill l (j + 1)) by
              rw [← fill_set hjl]
              exact Own.putB HO.out j 98 hnl)
            have HBN := Lib.hid (HB.out.setCell (p := ⟨g, j, none⟩) hgb (.int .u8 98))
            have hjI : (j : Int) < (l : Int) := by omega
            clear hnl hgb
            generalize (((fill l j)[j]?.getD 0).toNat : Int) = cv at *
            go_wp2
            exact ⟨⟨j + 1, by go_num, by omega, HON, HBN⟩, by simp [intOf]; omega⟩
          · obtain rfl : j = l := by omega
            obtain ⟨A5, c5, e5, hr5⟩ := HO.out.open_
            injection e5 with e5a e5b e5c
            subst e5a e5c
            rw [fill_all] at hr5
            obtain ⟨T, hT⟩ : ∃ T : ByteArray, T = ⟨(List.replicate j (98 : UInt8)).toArray⟩ := ⟨_, rfl⟩
            have hcv := run_str (P := Tryd.prog) wy _ 30 9 5 Tryd.underlying30 Tryd.underlying5 Tryd.underlying9 _ _ _ _ hr5
            rw [← hT, show (List.replicate j (98 : UInt8)).length = j by simp] at hcv
            have hTl : T.size = j := by rw [hT]; simp [ByteArray.size]
            have HBT := Lib.hid (show bl T = List.replicate j 98 by rw [hT])
            clear hT hr5 e5b
            have HRT := Lib.hid (HR.out ((⟨#[71, 69, 84, 32, 47, 116, 97, 98, 108, 101, 32, 72, 84, 84, 80, 47, 49, 46, 49, 13, 10, 72, 111, 115, 116, 58, 32, 120, 13, 10, 97, 58, 32]⟩ ++ T) ++ ⟨#[13, 10, 13, 10]⟩) wy HB.out (by rw [ByteArray.size_append, ByteArray.size_append]; show 33 + T.size + 4 ≤ _; omega))
            rw [show bl ((⟨#[71, 69, 84, 32, 47, 116, 97, 98, 108, 101, 32, 72, 84, 84, 80, 47, 49, 46, 49, 13, 10, 72, 111, 115, 116, 58, 32, 120, 13, 10, 97, 58, 32]⟩ ++ T) ++ ⟨#[13, 10, 13, 10]⟩) = M.lnLong j by rw [bl_cat, bl_cat, HBT.out, List.append_assoc]; rfl] at HRT
            unfold TellsR at HRT
            obtain ⟨⟨⟨m2, pa2, body2, cl2⟩, mm2, st2⟩, hrr2⟩ : ∃ r, r = M.read (M.lnLong j) := ⟨_, rfl⟩
            have HL2 := Lib.hid HLL.out
            rw [← hrr2] at HRT HL2
            clear hrr2
            simp only at HRT HL2
            have hs1 : ¬ 9223372036854775807 < 33 + T.size := by omega
            have hs2 : ¬ 9223372036854775807 < 33 + T.size + 4 := by omega
            have hs1' : ¬ 9223372036854775807 < 33 + j := by omega
            have hs2' : ¬ 9223372036854775807 < 33 + j + 4 := by omega
            have hcase2 : (2048 < 37 + j ∧ mm2 = 0 ∧ st2 = 431) ∨ (¬ 2048 < 37 + j ∧ mm2 = 37 + j ∧ st2 = 0) := by
              have h := HL2.out
              by_cases h3 : 2048 < 37 + j
              · rw [if_pos h3] at h; injection h with h1 h2; exact .inl ⟨h3, h1, h2⟩
              · rw [if_neg h3] at h; injection h with h1 h2; exact .inr ⟨h3, h1, h2⟩
            clear HLL HL2
            rcases hcase2 with ⟨h48, rfl, rfl⟩ | ⟨h48, rfl, rfl⟩
            all_goals
              go_wp2_with fail
              refine HRT.out.mono ?_
              rintro e w6 ⟨rfl, hb6⟩
              have HB6 := Lib.hid (HB.out.trans (hb6.mono HB.out.size))
              clear hb6
              simp only [rqv]
              go_wp2
              go_ret
              exact ⟨by first | rfl | (simp; omega), HB6.out⟩
end Go.Proofs.YtpmcjkhhjkahjaaDoor
