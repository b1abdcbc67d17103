/-
  What words.wordEnd and small do, by contracts; []byte(s) and back.
-/
import Derived.Test.YtfapkpaohkdfpaaGreatDoorWordsA
import Derived.Lib.ConvBytes
import Derived.Laws.IdiomStrings
namespace Go.Proofs.YtfapkpaohkdfpaaGreatDoor
open Go.RowKit Mem
set_option linter.unusedVariables false
set_option maxRecDepth 100000

theorem bl_from (s : ByteArray) (a : Nat) : bl (s.extract a s.size) = (bl s).drop a := by
  show (s.extract a s.size).data.toList = _
  rw [Lib.extract_data, List.take_of_length_le (by simp)]
theorem bl_cut (s : ByteArray) (a b : Nat) : bl (s.extract a b) = ((bl s).take b).drop a := by
  show (s.extract a b).data.toList = _
  rw [Lib.extract_data, List.drop_take]

/-- behind k bytes of the word at a place -/
def EndInv (l : List UInt8) (a k : Nat) : Prop := k + M.run (32 - k) (l.drop (a + k)) = M.run 32 (l.drop a) ∧ k ≤ 32
theorem EndInv.start (l : List UInt8) (a : Nat) : EndInv l a 0 := ⟨by simp, by omega⟩
theorem EndInv.stop {l : List UInt8} {a k : Nat} (h : EndInv l a k) (hn : M.lead (l.drop (a + k)) = 0 ∨ 32 < k + M.lead (l.drop (a + k))) : M.run 32 (l.drop a) = k := by
  rw [← h.1, M.run_none (by have := h.2; omega)]; rfl
theorem EndInv.go {l : List UInt8} {a k : Nat} (h : EndInv l a k) (hn : ¬ M.lead (l.drop (a + k)) = 0) (hm : ¬ 32 < k + M.lead (l.drop (a + k))) : EndInv l a (k + M.lead (l.drop (a + k))) := by
  have h2 := h.2
  have e := M.run_some (room := 32 - k) (l := l.drop (a + k)) (by omega)
  have h1 := h.1
  rw [e, List.drop_drop] at h1
  generalize M.lead (l.drop (a + k)) = n at *
  refine ⟨?_, by omega⟩
  rw [← h1, ← Nat.add_assoc, ← Nat.add_assoc, show 32 - (k + n) = 32 - k - n by omega]

set_option maxHeartbeats 1000000 in
theorem wordEnd_any (s : ByteArray) (a : Nat) (w : World) (ha : a ≤ s.size) (hs : s.size ≤ 140737488355328) (hT : Tabs w) :
    Calls Tryz.prog 123 #[.string s, .int .i64 a] w (SaysI (a + M.run 32 ((bl s).drop a)) w) := by
  have HT := Lib.hid hT
  clear hT
  have H0 := Lib.hid (EndInv.start (bl s) a)
  go_enter Tryz.func123, Tryz.ntmps123
  go_wp2
  go_loopw [5] (fun p wr => ∃ k : Nat, p = .int .i64 ((a + k : Nat) : Int) ∧ a + k ≤ s.size ∧ Hid (EndInv (bl s) a k) ∧ Hid (Below w.heap.size w wr)) (fun p _ => s.size - (intOf p).toNat)
  case atStart => exact ⟨0, rfl, ha, H0, Lib.hid (Below.refl _ _)⟩
  case round =>
    obtain ⟨k, rfl, hk, HI, HB⟩ := hrel
    rename World => wr
    by_cases hlt : a + k < s.size
    · have hl := letter_any (s.extract (a + k) s.size) wr (by simp; omega) (HT.out.below HB.out)
      rw [bl_from] at hl
      have HLE := Lib.hid (M.lead_le ((bl s).drop (a + k)))
      have HS := Lib.hid (HI.out.stop)
      have HG := Lib.hid (HI.out.go)
      have h4 := M.lead_le4 ((bl s).drop (a + k))
      have h32 := HI.out.2
      generalize M.lead ((bl s).drop (a + k)) = n at *
      have hle : a + k + n ≤ s.size := by have := HLE.out; simp at this; omega
      by_cases h0 : n = 0
      · have hq : ((n : Int) == 0) = true := by simp; omega
        have H00 := Lib.hid h0
        have HL := Lib.hid hl
        clear h0 hl
        go_wp2_with fail
        refine HL.out.mono ?_
        rintro e w1 ⟨rfl, hb⟩
        go_wp2
        go_ret
        exact ⟨by rw [HS.out (.inl H00.out)]; rfl, HB.out.trans (hb.mono HB.out.size)⟩
      · have hq : ((n : Int) == 0) = false := by simp; omega
        have H00 := Lib.hid h0
        have HL := Lib.hid hl
        clear h0 hl
        by_cases hm : 32 < k + n
        · go_wp2_with fail
          refine HL.out.mono ?_
          rintro e w1 ⟨rfl, hb⟩
          go_wp2
          go_ret
          exact ⟨by rw [HS.out (.inr hm)]; rfl, HB.out.trans (hb.mono HB.out.size)⟩
        · go_wp2_with fail
          refine HL.out.mono ?_
          rintro e w1 ⟨rfl, hb⟩
          go_wp2
          go_roundw
          case rel => exact ⟨k + n, by go_num, by omega, Lib.hid (HG.out H00.out hm), Lib.hid (HB.out.trans (hb.mono HB.out.size))⟩
          case measure => have := H00.out; simp [intOf]; omega
    · have HS := Lib.hid (HI.out.stop (.inl (by rw [List.drop_eq_nil_of_le (by simp; omega)]; rfl)))
      go_wp2
      go_ret
      exact ⟨by rw [HS.out]; rfl, HB.out⟩
end Go.Proofs.YtfapkpaohkdfpaaGreatDoor
