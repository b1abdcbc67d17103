/-
  What http.headLines does, by a contract.
-/
import Derived.Test.YtdbinhbmhkbfeaaGreatDoorHttpE
import Derived.Test.YtdbinhbmhkbfeaaGreatDoorHttpMb
namespace Go.Proofs.YtdbinhbmhkbfeaaGreatDoor.M
open Go
theorem headF_round {n : Nat} {lines : List (List UInt8)} {k : Nat} {p : List UInt8} (hl : lines.length = n) (hn : n ≤ 32) : headF (34 - n) lines k p =
    if (p.drop k).length ≤ fi 10 (p.drop k) then (if 2048 < p.length then .no 431 else .no 0)
    else if 2048 ≤ k + fi 10 (p.drop k) then .no 431
    else if fi 10 (p.drop k) = 0 ∨ (p.drop k)[fi 10 (p.drop k) - 1]? ≠ some 13 then .no 400
    else if fi 10 (p.drop k) = 1 ∧ lines ≠ [] then .yes lines (k + fi 10 (p.drop k) + 1)
    else headF (34 - (n + 1)) (lines ++ [(p.drop k).take (fi 10 (p.drop k) - 1)]) (k + fi 10 (p.drop k) + 1) p := by
  rw [show 34 - n = (34 - (n + 1)) + 1 by omega]
  conv => lhs; unfold headF
  rw [if_neg (by omega)]
/-- a round of the reading of lines: what is known when it begins -/
structure Rd (p : List UInt8) (n k : Nat) (lines : List (List UInt8)) : Prop where
  len : lines.length = n
  top : n ≤ 33
  at_ : k ≤ 2048
  inp : k ≤ p.length
  same : headF (34 - n) lines k p = heads p
  short : ∀ l ∈ lines, l.length ≤ 2048
theorem Rd.start (p : List UInt8) : Rd p 0 0 [] := ⟨rfl, by omega, by omega, by omega, rfl, fun l hl => by cases hl⟩
theorem Rd.many {p : List UInt8} {n k : Nat} {lines : List (List UInt8)} (h : Rd p n k lines) (hn : 32 < n) : heads p = .no 431 := by rw [← h.same, headF_many (by rw [h.len]; exact hn)]
theorem Rd.next {p : List UInt8} {n k j : Nat} {lines : List (List UInt8)} (h : Rd p n k lines) (hn : n ≤ 32) (hj : fi 10 (p.drop k) = j) (h1 : j < (p.drop k).length) (h2 : k + j < 2048) (h3 : ¬ (j = 0 ∨ (p.drop k)[j - 1]? ≠ some 13)) (h4 : ¬ (j = 1 ∧ lines ≠ [])) :
    Rd p (n + 1) (k + j + 1) (lines ++ [(p.drop k).take (j - 1)]) := by
  have h' := h.same
  rw [headF_round h.len hn, hj, if_neg (by omega), if_neg (by omega), if_neg h3, if_neg h4] at h'
  refine ⟨by simp [h.len], by omega, by omega, by simp at h1; omega, h', fun l hl => ?_⟩
  rcases List.mem_append.1 hl with h5 | h5
  · exact h.short l h5
  · rw [List.mem_singleton.1 h5]; simp; omega
end Go.Proofs.YtdbinhbmhkbfeaaGreatDoor.M
namespace Go.Proofs.YtdbinhbmhkbfeaaGreatDoor
open Go.RowKit Mem Go.Sort
set_option linter.unusedVariables false
set_option maxRecDepth 100000

theorem Tryz.infoS : (Tryz.prog.info? 9).map (fun i => (i.zero, i.size, i.bytes)) = some (some (.string ⟨#[]⟩), 1, 16) := by kernel_rfl
theorem info_of {P : Program} {e : TypeId} {z : Value} {s b : Nat} (h : (P.info? e).map (fun i => (i.zero, i.size, i.bytes)) = some (some z, s, b)) : ∃ i, P.info? e = some i ∧ i.zero = some z ∧ i.size = s ∧ i.bytes = b := by
  cases hi : P.info? e with
  | none => rw [hi] at h; cases h
  | some i =>
    rw [hi] at h
    simp only [Option.map_some, Option.some.injEq, Prod.mk.injEq] at h
    exact ⟨i, rfl, h.1, h.2.1, h.2.2⟩
def lenv : Value → Nat | .slice _ n _ => n | _ => 0
theorem index_some {s : ByteArray} {j : Nat} (h : M.fi 10 (bl s) = j) (hl : j < s.size) (w : World) : Calls Tryz.prog 32 #[.string s, .int .u8 10] w (SaysZ j w) := by
  have := Tryz.strings_IndexByte s 10 w
  rwa [show (10 : Int).toNat.toUInt8 = 10 from rfl, M.indexByte_fi, h, if_pos (by rw [bl_len]; exact hl)] at this
theorem index_none {s : ByteArray} (h : ¬ M.fi 10 (bl s) < s.size) (w : World) : Calls Tryz.prog 32 #[.string s, .int .u8 10] w (SaysZ (-1) w) := by
  have := Tryz.strings_IndexByte s 10 w
  rwa [show (10 : Int).toNat.toUInt8 = 10 from rfl, M.indexByte_fi, if_neg (by rw [bl_len]; exact h)] at this
/-- lines and the place behind them; or the state with which they are refused -/
def HeadsDid (r : M.Heads) (w : World) (e : Ending) (w' : World) : Prop := Below w.heap.size w w' ∧ match r with
  | .no st => e = .returned (.tuple #[.slice none 0 0, .int .i64 0, .int .i64 (st : Int)])
  | .yes ls b => ∃ A c, e = .returned (.tuple #[.slice A ls.length c, .int .i64 (b : Int), .int .i64 0]) ∧ RdV w' w'.heap.size A ls.length c (strs ls)

set_option maxHeartbeats 4000000 in
theorem headLines_any (s : ByteArray) (w : World) (hs : s.size ≤ 9223372036854775806) : Calls Tryz.prog 23 #[.string s] w (HeadsDid (M.heads (bl s)) w) := by
  obtain ⟨i0, hi, hz0, hz1, hz2⟩ := info_of Tryz.infoS
  have HI := Lib.hid hi; have HZ0 := Lib.hid hz0; have HZ1 := Lib.hid hz1; have HZ2 := Lib.hid hz2
  clear hi hz0 hz1 hz2
  have hln : (bl s).length = s.size := bl_len s
  go_enter Tryz.func23, Tryz.ntmps23
  go_wp2
  go_loopw [5, 6] (fun v p wr => ∃ (n k c : Nat) (A : Option Addr) (lines : List (List UInt8)), v = .slice A n c ∧ p = .int .i64 (k : Int) ∧ n ≤ 33 ∧ k ≤ 2048 ∧ k ≤ s.size ∧ Hid (M.Rd (bl s) n k lines) ∧ Hid (OwnV wr w.heap.size 9 (.slice A n c) (strs lines)) ∧ Hid (Below w.heap.size w wr)) (fun v _ _ => 34 - lenv v)
  case atStart => exact ⟨0, 0, 0, none, [], rfl, rfl, by omega, by omega, by omega, Lib.hid (M.Rd.start _), Lib.hid (OwnV.nil _ _ _), Lib.hid (Below.refl _ _)⟩
  case round =>
    obtain ⟨n, k, c, A, lines, rfl, rfl, hn, hk, hks, HR, HO, HB⟩ := hrel
    rename World => wr
    by_cases hm : 32 < n
    · have HM := Lib.hid (HR.out.many hm)
      go_wp2
      go_ret3
      exact ⟨HB.out, by rw [HM.out]; rfl⟩
    · have hn32 : n ≤ 32 := by omega
      obtain ⟨s2, hs2⟩ : ∃ s2, s.extract k s.size = s2 := ⟨_, rfl⟩
      have hb2 : bl s2 = (bl s).drop k := by rw [← hs2, bl_from]
      have hz2 : s2.size = s.size - k := by rw [← bl_len, hb2, List.length_drop, hln]
      have hround := M.headF_round (k := k) (p := bl s) HR.out.len hn32
      rw [HR.out.same, ← hb2] at hround
      by_cases hj : M.fi 10 (bl s2) < s2.size
      · obtain ⟨j, hje⟩ : ∃ j, M.fi 10 (bl s2) = j := ⟨_, rfl⟩
        have HIX := Lib.hid (index_some hje (by omega))
        rw [hje] at hj hround
        have hkj : k + j < s.size := by omega
        by_cases hfar : 2048 ≤ k + j
        · have HM := Lib.hid (show M.heads (bl s) = .no 431 by rw [hround, if_neg (by rw [bl_len]; omega), if_pos hfar])
          clear hround hb2 hz2
          go_wp2_with fail
          refine (HIX.out _).mono ?_
          rintro e w1 ⟨rfl, rfl⟩
          go_wp2
          go_ret3
          exact ⟨HB.out, by rw [HM.out]; rfl⟩
        · have hnear : k + j < 2048 := by omega
          obtain ⟨s3, hs3⟩ : ∃ s3, s.extract k (k + j) = s3 := ⟨_, rfl⟩
          have hb3 : bl s3 = (bl s2).take j := by rw [← hs3, bl_cut, hb2, List.take_drop]
          have hl3 : (bl s3).length = j := by rw [hb3, List.length_take, bl_len]; omega
          have hz3 : s3.size ≤ 9223372036854775807 := by rw [← bl_len, hl3]; omega
          have hcut := fun w1 => Tryz.strings_CutSuffix s3 ⟨#[13]⟩ w1 hz3
          change ∀ w1, Calls Tryz.prog 33 #[.string s3, .string ⟨#[13]⟩] w1 fun e w' => e = .returned (.tuple #[.string ⟨(Lib.trimSuffix (bl s3) [13]).toArray⟩, .bool (Lib.hasSuffix (bl s3) [13])]) ∧ w' = w1 at hcut
          have hsuf : Lib.hasSuffix (bl s3) [13] = decide (¬ (j = 0 ∨ (bl s2)[j - 1]? ≠ some 13)) := by
            rw [M.suffix13, hl3]
            congr 1
            rw [hb3]
            by_cases h0 : j = 0
            · simp [h0]
            · rw [List.getElem?_take, if_pos (by omega)]; simp [h0]
          have htrim : Lib.trimSuffix (bl s3) [13] = if Lib.hasSuffix (bl s3) [13] = true then (bl s2).take (j - 1) else bl s3 := by
            unfold Lib.trimSuffix
            congr 1
            rw [hb3, List.take_take, List.length_take, bl_len]
            congr 1
            simp
            omega
          rw [hsuf] at htrim hcut
          rw [htrim] at hcut
          clear htrim hsuf
          by_cases hno : j = 0 ∨ (bl s2)[j - 1]? ≠ some 13
          · rw [decide_eq_false (fun h => h hno), if_neg (by simp)] at hcut
            have HCUT := Lib.hid hcut
            have HM := Lib.hid (show M.heads (bl s) = .no 400 by rw [hround, if_neg (by rw [bl_len]; omega), if_neg hfar, if_pos hno])
            clear hround hb2 hz2 hcut hno hb3 hl3 hz3 hje
            generalize bl s3 = L at *
            go_wp2_with fail
            refine (HIX.out _).mono ?_
            rintro e w1 ⟨rfl, rfl⟩
            go_wp2_with fail
            refine (HCUT.out _).mono ?_
            rintro e w1 ⟨rfl, rfl⟩
            go_wp2
            go_ret3
            exact ⟨HB.out, by rw [HM.out]; rfl⟩
          · rw [decide_eq_true hno, if_pos rfl] at hcut
            have HCUT := Lib.hid hcut
            have hj1 : 1 ≤ j := by omega
            have hLl : ((bl s2).take (j - 1)).length = j - 1 := by rw [List.length_take, bl_len]; omega
            by_cases hend : j = 1 ∧ lines ≠ []
            · obtain ⟨rfl, hne⟩ := hend
              have HM := Lib.hid (show M.heads (bl s) = .yes lines (k + 1 + 1) by rw [hround, if_neg (by rw [bl_len]; omega), if_neg hfar, if_neg hno, if_pos ⟨rfl, hne⟩])
              have hq : ((bl s2).take (1 - 1) == []) = true := by simp
              have hn0 : 0 < n := by rw [← HR.out.len]; exact List.length_pos_iff.2 hne
              have HLN := Lib.hid HR.out.len
              clear hround hb2 hz2 hcut hno hb3 hl3 hz3 hje hLl hne
              generalize (bl s2).take (1 - 1) = L at *
              go_wp2_with fail
              refine (HIX.out _).mono ?_
              rintro e w1 ⟨rfl, rfl⟩
              go_wp2_with fail
              refine (HCUT.out _).mono ?_
              rintro e w1 ⟨rfl, rfl⟩
              go_wp2
              go_ret3
              refine ⟨HB.out, ?_⟩
              rw [HM.out]
              have hrd := OwnV.rd HO.out
              exact ⟨A, c, by rw [HLN.out]; first | rfl | (congr 2), by rw [HLN.out]; exact hrd⟩
            · have HN := Lib.hid (HR.out.next hn32 (j := j) (by rw [← hb2]; exact hje) (by rw [← hb2, bl_len]; exact hj) hnear (by rw [← hb2]; exact hno) hend)
              rw [← hb2] at HN
              have HLN := Lib.hid HR.out.len
              have hq : ((bl s2).take (j - 1) == []) = false ∨ (bl s2).take (j - 1) = [] ∧ n ≤ 0 := by
                by_cases h1 : j = 1
                · right
                  have : lines = [] := Classical.byContradiction fun h => hend ⟨h1, h⟩
                  exact ⟨by rw [h1]; rfl, by rw [← HR.out.len, this]; exact Nat.le_refl 0⟩
                · left
                  rw [beq_eq_false_iff_ne]
                  intro e
                  rw [e] at hLl
                  simp at hLl
                  omega
              clear hround hb2 hz2 hcut hno hb3 hl3 hz3 hje hend hLl
              generalize (bl s2).take (j - 1) = L at *
              rcases hq with hq | ⟨rfl, hq⟩
              · go_wp2_with fail
                refine (HIX.out _).mono ?_
                rintro e w1 ⟨rfl, rfl⟩
                go_wp2_with fail
                refine (HCUT.out _).mono ?_
                rintro e w1 ⟨rfl, rfl⟩
                go_wp2_with (at_builtin; go_must (refine wpList_appV (w1.alloc _) rfl (.tmp 58) (.tmp 60) _ rfl w.heap.size (w1.heap.size + 1) _ i0 _ 16 Tryz.underlying46 HI.out HZ0.out HZ1.out HZ2.out rfl (.slice A n c) (strs lines) (HO.out.alloc _) rfl (some ⟨w1.heap.size, 0, none⟩) 1 1 [.string ⟨L.toArray⟩] (RdV.fresh w1 _ _) rfl (by simp [Value.oneCell']) (by have := HLN.out; simp; omega) (by have := HLN.out; simp; omega) (by have := HB.out.size; simp; omega) ?_))
                intro v9 w9 hown9 hg9 hat9
                obtain ⟨A9, c9, rfl, hc9, hcm9⟩ := hown9.form
                have hlen9 : (strs lines ++ [Value.string ⟨L.toArray⟩]).length = n + 1 := by simp [HLN.out]
                rw [hlen9] at hown9 hc9 ⊢
                have hB9 : Below w.heap.size w w9 := (HB.out.alloc HB.out.size _).grown hg9 (by have := HB.out.size; simp; omega) (fun k' hk' => (HO.out.lt k' hk').1)
                have HB9 := Lib.hid hB9
                have HO9 := Lib.hid (show OwnV w9 w.heap.size 9 (.slice A9 (n + 1) c9) (strs (lines ++ [L])) by rw [strs_app]; exact hown9)
                clear hown9 hg9 hat9 hB9 hlen9
                go_wp2
                go_roundw
                case rel => exact ⟨n + 1, k + j + 1, c9, A9, lines ++ [L], rfl, by go_num, by omega, by omega, by omega, HN, HO9, HB9⟩
                case measure => simp [lenv]; omega
              · go_wp2_with fail
                refine (HIX.out _).mono ?_
                rintro e w1 ⟨rfl, rfl⟩
                go_wp2_with fail
                refine (HCUT.out _).mono ?_
                rintro e w1 ⟨rfl, rfl⟩
                go_wp2_with (at_builtin; go_must (refine wpList_appV (w1.alloc _) rfl (.tmp 58) (.tmp 60) _ rfl w.heap.size (w1.heap.size + 1) _ i0 _ 16 Tryz.underlying46 HI.out HZ0.out HZ1.out HZ2.out rfl (.slice A n c) (strs lines) (HO.out.alloc _) rfl (some ⟨w1.heap.size, 0, none⟩) 1 1 [.string ⟨([] : List UInt8).toArray⟩] (RdV.fresh w1 _ _) rfl (by simp [Value.oneCell']) (by have := HLN.out; simp; omega) (by have := HLN.out; simp; omega) (by have := HB.out.size; simp; omega) ?_))
                intro v9 w9 hown9 hg9 hat9
                obtain ⟨A9, c9, rfl, hc9, hcm9⟩ := hown9.form
                have hlen9 : (strs lines ++ [Value.string ⟨([] : List UInt8).toArray⟩]).length = n + 1 := by simp [HLN.out]
                rw [hlen9] at hown9 hc9 ⊢
                have hB9 : Below w.heap.size w w9 := (HB.out.alloc HB.out.size _).grown hg9 (by have := HB.out.size; simp; omega) (fun k' hk' => (HO.out.lt k' hk').1)
                have HB9 := Lib.hid hB9
                have HO9 := Lib.hid (show OwnV w9 w.heap.size 9 (.slice A9 (n + 1) c9) (strs (lines ++ [([] : List UInt8)])) by rw [strs_app]; exact hown9)
                clear hown9 hg9 hat9 hB9 hlen9
                go_wp2
                go_roundw
                case rel => exact ⟨n + 1, k + j + 1, c9, A9, lines ++ [([] : List UInt8)], rfl, by go_num, by omega, by omega, by omega, HN, HO9, HB9⟩
                case measure => simp [lenv]; omega
      · have HIX := Lib.hid (index_none hj)
        by_cases hlong : 2048 < s.size
        · have HM := Lib.hid (show M.heads (bl s) = .no 431 by rw [hround, if_pos (by rw [bl_len]; omega), if_pos (by omega)])
          clear hround hb2 hz2 hj
          go_wp2_with fail
          refine (HIX.out _).mono ?_
          rintro e w1 ⟨rfl, rfl⟩
          go_wp2
          go_ret3
          exact ⟨HB.out, by rw [HM.out]; rfl⟩
        · have HM := Lib.hid (show M.heads (bl s) = .no 0 by rw [hround, if_pos (by rw [bl_len]; omega), if_neg (by omega)])
          have hshort : s.size ≤ 2048 := by omega
          clear hround hb2 hz2 hj
          go_wp2_with fail
          refine (HIX.out _).mono ?_
          rintro e w1 ⟨rfl, rfl⟩
          go_wp2
          go_ret3
          exact ⟨HB.out, by rw [HM.out]; rfl⟩
end Go.Proofs.YtdbinhbmhkbfeaaGreatDoor
