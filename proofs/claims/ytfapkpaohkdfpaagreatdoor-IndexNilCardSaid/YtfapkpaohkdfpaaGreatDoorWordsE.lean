/-
  What the document's letter and Words do, by contracts.
-/
import Derived.Test.YtfapkpaohkdfpaaGreatDoorWordsD
namespace Go.Proofs.YtfapkpaohkdfpaaGreatDoor
open Go.RowKit Mem
set_option linter.unusedVariables false
set_option maxRecDepth 100000

theorem low_keep {c : UInt8} (h : ¬ (65 ≤ c.toNat ∧ c.toNat ≤ 90)) : M.low c = c := by unfold M.low; rw [if_neg h]
/-- the letter at the front, as it stands in a word -/
def letT (l : List UInt8) : List UInt8 := (l.take (M.lead l)).map M.low
def letN (l : List UInt8) : Nat := if M.lead l = 0 then 1 else M.lead l
theorem letT_none {l : List UInt8} (h : M.lead l = 0) : letT l = [] ∧ letN l = 1 := by unfold letT letN; rw [h]; simp
theorem letT_one {l : List UInt8} (hl : 0 < l.length) (h : M.lead l = 1) : letT l = [M.low l[0]] ∧ letN l = 1 := by
  unfold letT letN
  rw [h]
  cases l with
  | nil => simp at hl
  | cons a r => simp
theorem wide_high {n b0 b1 b2 b3 : Nat} (h : 1 < M.wideN n b0 b1 b2 b3) : 128 ≤ b0 ∧ 128 ≤ b1 ∧ (2 < M.wideN n b0 b1 b2 b3 → 128 ≤ b2) ∧ (3 < M.wideN n b0 b1 b2 b3 → 128 ≤ b3) := by
  unfold M.wideN at *
  split at h
  · rename_i q; rw [if_pos q]; omega
  · rename_i q; rw [if_neg q]
    split at h
    · rename_i q2; rw [if_pos q2]; omega
    · rename_i q2; rw [if_neg q2]
      split at h
      · rename_i q3; rw [if_pos q3]; omega
      · omega
theorem letT_wide {l : List UInt8} (h : 1 < M.lead l) : letT l = l.take (M.lead l) ∧ letN l = M.lead l := by
  refine ⟨?_, by unfold letN; rw [if_neg (by omega)]⟩
  have hw : M.lead l = M.wide l ∧ 1 < M.wide l := by
    unfold M.lead at h ⊢
    repeat' split at h
    all_goals (try omega)
    rename_i q1 q2 q3 q4
    rw [if_neg q1, if_neg q2, if_neg q3, if_pos q4]
    exact ⟨rfl, q4⟩
  have h4 := M.lead_le4 l
  have hh := wide_high (by rw [← M.wide_eq]; exact hw.2 : 1 < M.wideN l.length (M.byteAt l 0) (M.byteAt l 1) (M.byteAt l 2) (M.byteAt l 3))
  rw [← M.wide_eq, ← hw.1] at hh
  unfold letT
  apply List.ext_getElem
  · simp
  · intro j h1 h2
    have hj : j < M.lead l := by simp at h2; omega
    have hjl : j < l.length := by simp at h2; omega
    simp only [List.getElem_map, List.getElem_take]
    refine low_keep ?_
    have e : l[j].toNat = M.byteAt l j := by unfold M.byteAt; rw [List.getElem?_eq_getElem hjl]; rfl
    rw [e]
    have : j = 0 ∨ j = 1 ∨ j = 2 ∨ j = 3 := by omega
    rcases this with rfl | rfl | rfl | rfl
    · omega
    · omega
    · have := hh.2.2.1 hj; omega
    · have := hh.2.2.2 hj; omega

def SaysL (l : List UInt8) (w : World) (e : Ending) (w' : World) : Prop := e = .returned (.tuple #[.string ⟨(letT l).toArray⟩, .int .i64 (letN l : Int)]) ∧ Below w.heap.size w w'

/-- string of a slice of one byte -/
theorem conv_one (w : World) (q : Int) (b : UInt8) (hq : q = (b.toNat : Int)) : (convert 48 9 (.slice (some ⟨w.heap.size, 0, none⟩) 1 1)).run Tryz.prog (w.alloc (.cells #[.int .u8 q] 5)) = .ok (.string ⟨#[b]⟩) (w.alloc (.cells #[.int .u8 q] 5)) := by
  subst hq
  have := run_str (P := Tryz.prog) (w.alloc (.cells #[.int .u8 (b.toNat : Int)] 5)) (w.heap.size + 1) 48 9 5 Tryz.underlying48 Tryz.underlying5 Tryz.underlying9 _ 1 1 [b] (Rd.fresh w #[.int .u8 (b.toNat : Int)] 5 (0, 0) [b] rfl (by simp))
  exact this

set_option maxHeartbeats 1000000 in
theorem ref_letter_any (s : ByteArray) (i : Nat) (w : World) (hs : s.size ≤ 140737488355328) (h : i < s.size) (hT : Tabs w) : Calls Tryz.prog 103 #[.string s, .int .i64 (i : Int)] w (SaysL ((bl s).drop i) w) := by
  have hln : (bl s).length = s.size := bl_len s
  have hil : i < (bl s).length := by rw [hln]; exact h
  have hdl : 0 < ((bl s).drop i).length := by simp; omega
  have hne : (bl s).drop i ≠ [] := List.length_pos_iff.1 hdl
  have hgi : (bl s)[i] = s[i] := rfl
  have hc0 : ((bl s).drop i)[0]?.getD 0 = s[i] := by rw [List.getElem?_drop, Nat.add_zero, List.getElem?_eq_getElem hil]; rfl
  have hd0 : ((bl s).drop i)[0] = s[i] := by rw [List.getElem_drop]; simp only [Nat.add_zero]; rfl
  have hb0 : M.byteAt ((bl s).drop i) 0 = (s[i]).toNat := by unfold M.byteAt; rw [hc0]
  obtain ⟨x, hx⟩ : ∃ x, (s[i]).toNat = x := ⟨_, rfl⟩
  have hx256 : x < 256 := by rw [← hx]; exact UInt8.toNat_lt _
  have han := isAN_iff (s[i])
  rw [hx] at han hb0
  by_cases ha : M.isAN (s[i]) = true
  · have HL := Lib.hid (letT_one hdl (lead_an hne (by rw [hc0]; exact ha)))
    rw [hd0] at HL
    have hcs := han.1 ha
    by_cases hup : 65 ≤ x ∧ x ≤ 90
    · obtain ⟨h1, h2⟩ := hup
      have hcv := conv_one w ((x : Int) + 32) (M.low (s[i])) (by
        have e : M.low (s[i]) = s[i] + 32 := by unfold M.low; rw [if_pos (by rw [hx]; omega)]
        rw [e, UInt8.toNat_add, hx]
        show _ = (((x + 32) % 256 : Nat) : Int)
        omega)
      generalize M.low (s[i]) = b at *
      clear han hc0 hb0 hT ha hcs hgi hd0
      go_enter Tryz.func103, Tryz.ntmps103
      go_wp2
      go_ret2
      exact ⟨by rw [HL.out.1, HL.out.2]; rfl, (Below.refl _ w).alloc (Nat.le_refl _) _⟩
    · have hlow : M.low (s[i]) = s[i] := low_keep (by rw [hx]; exact hup)
      have hcv := conv_one w (x : Int) (s[i]) (by rw [hx])
      rw [hlow] at HL
      generalize hbb : s[i] = b at *
      clear han hc0 hb0 hT ha hgi hd0 hlow
      by_cases h1 : 97 ≤ x <;> by_cases h2 : x ≤ 122 <;> by_cases h3 : 65 ≤ x <;> by_cases h4 : x ≤ 90 <;> by_cases h5 : 48 ≤ x <;> by_cases h6 : x ≤ 57 <;> first | (exfalso; omega) | skip
      all_goals
        go_enter Tryz.func103, Tryz.ntmps103
        go_wp2
        go_ret2
        exact ⟨by rw [HL.out.1, HL.out.2]; rfl, (Below.refl _ w).alloc (Nat.le_refl _) _⟩
  · have hno : M.isAN (s[i]) = false := by simpa using ha
    have hcs : ¬ (97 ≤ x ∧ x ≤ 122 ∨ 65 ≤ x ∧ x ≤ 90 ∨ 48 ≤ x ∧ x ≤ 57) := fun h' => ha (han.2 h')
    by_cases h128 : x < 128
    · have HL := Lib.hid (letT_none (lead_low hne (by rw [hc0]; exact hno) (by rw [hb0]; exact h128)))
      clear han hc0 hb0 hT ha hno hgi hd0
      by_cases h1 : 97 ≤ x <;> by_cases h2 : x ≤ 122 <;> by_cases h3 : 65 ≤ x <;> by_cases h4 : x ≤ 90 <;> by_cases h5 : 48 ≤ x <;> by_cases h6 : x ≤ 57 <;> first | (exfalso; omega) | skip
      all_goals
        go_enter Tryz.func103, Tryz.ntmps103
        go_wp2
        go_ret2
        exact ⟨by rw [HL.out.1, HL.out.2]; rfl, Below.refl _ _⟩
    · have hlw := lead_wide hne (by rw [hc0]; exact hno) (by rw [hb0]; exact h128)
      have HC := Lib.hid (Tryz.utf8_DecodeRuneInString (s.extract i s.size) w hT)
      have hdb := decode_bl (s.extract i s.size) (by simp; omega)
      rw [bl_from] at hdb
      have hw2 : (Lib.decodeGo (s.extract i s.size)).2 = M.wide ((bl s).drop i) := by rw [hdb]; rfl
      have herr := M.decodeN_err (n := ((bl s).drop i).length) (b0 := M.byteAt ((bl s).drop i) 0) (b1 := M.byteAt ((bl s).drop i) 1) (b2 := M.byteAt ((bl s).drop i) 2) (b3 := M.byteAt ((bl s).drop i) 3) (by rw [hb0]; exact h128)
      rw [← hdb] at herr
      have hpos := M.wideN_pos ((bl s).drop i).length (M.byteAt ((bl s).drop i) 0) (M.byteAt ((bl s).drop i) 1) (M.byteAt ((bl s).drop i) 2) (M.byteAt ((bl s).drop i) 3)
      rw [← M.wide_eq, ← hw2] at hpos
      rw [← hw2] at hlw
      clear han hc0 hb0 hT ha hno hcs hgi hd0 hdb hw2
      generalize (Lib.decodeGo (s.extract i s.size)).1 = rr at *
      generalize (Lib.decodeGo (s.extract i s.size)).2 = k at *
      rw [List.length_drop, hln] at hpos
      by_cases hk : 1 < k
      · rw [if_pos hk] at hlw
        have HL := Lib.hid (letT_wide (by rw [hlw]; exact hk))
        rw [hlw] at HL
        have hne2 : ¬ (rr = 65533 ∧ k < 3) := fun e => by have := herr.1 e; omega
        have hki : i + k ≤ s.size := by omega
        have HTX := Lib.hid (show bl (s.extract i (i + k)) = ((bl s).drop i).take k by rw [bl_cut, List.drop_take]; congr 1; omega)
        clear herr hlw
        by_cases hr : rr = 65533
        · have hq : ((rr : Int) == 65533) = true := by simp; omega
          have HR := Lib.hid hr
          have hk3 : ¬ k < 3 := fun e => hne2 ⟨hr, e⟩
          clear hr hne2
          go_enter Tryz.func103, Tryz.ntmps103
          go_wp2_with fail
          refine HC.out.mono ?_
          rintro e w1 ⟨rfl, hb⟩
          go_wp2
          go_ret2
          exact ⟨by rw [HL.out.1, HL.out.2, ← HTX.out]; rfl, hb⟩
        · have hq : ((rr : Int) == 65533) = false := by simp; omega
          have HR := Lib.hid hr
          clear hr hne2
          go_enter Tryz.func103, Tryz.ntmps103
          go_wp2_with fail
          refine HC.out.mono ?_
          rintro e w1 ⟨rfl, hb⟩
          go_wp2
          go_ret2
          exact ⟨by rw [HL.out.1, HL.out.2, ← HTX.out]; rfl, hb⟩
      · rw [if_neg hk] at hlw
        have HL := Lib.hid (letT_none hlw)
        obtain ⟨hr, hk3⟩ := herr.2 (by omega)
        have hq : ((rr : Int) == 65533) = true := by simp; omega
        have HR := Lib.hid hr
        clear hr herr hlw
        go_enter Tryz.func103, Tryz.ntmps103
        go_wp2_with fail
        refine HC.out.mono ?_
        rintro e w1 ⟨rfl, hb⟩
        go_wp2
        go_ret2
        exact ⟨by rw [HL.out.1, HL.out.2]; rfl, hb⟩
end Go.Proofs.YtfapkpaohkdfpaaGreatDoor
