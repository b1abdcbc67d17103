/-
  What words.letter, wordEnd and small do, by contracts.
-/
import Derived.Test.YtfapkpaohkdfpaaGreatDoorRows
import Derived.Test.YtfapkpaohkdfpaaGreatDoorShelf
import Derived.Test.YtfapkpaohkdfpaaGreatDoorWordsMath
import Derived.Test.YtfapkpaohkdfpaaGreatDoorMemB
import Derived.Lib.Hide
import Derived.Deep.DeepMust
namespace Go.Proofs.YtfapkpaohkdfpaaGreatDoor
open Go.RowKit Mem
set_option linter.unusedVariables false
set_option maxRecDepth 100000

/-- the library's two tables of UTF-8 -/
def Tabs (w : World) : Prop := Lib.Utf8Tabs 0 1 w
theorem Tabs.below {w w' : World} (h : Tabs w) (hb : Below w.heap.size w w') : Tabs w' := by
  refine ⟨fun c hc => ?_, fun i hi => ⟨?_, ?_⟩⟩
  · have h1 := h.1 c hc
    exact (hb.cell (World.block_lt_of_cell? w _ h1)).trans h1
  · have h1 := (h.2 i hi).1
    exact (hb.cell (World.block_lt_of_cell? w _ h1)).trans h1
  · have h1 := (h.2 i hi).2
    exact (hb.cell (World.block_lt_of_cell? w _ h1)).trans h1
theorem Tabs.alloc {w : World} (h : Tabs w) (o : Obj) : Tabs (w.alloc o) := h.below ((Below.refl _ w).alloc (Nat.le_refl _) o)

abbrev bl (s : ByteArray) : List UInt8 := s.data.toList
theorem bl_len (s : ByteArray) : (bl s).length = s.size := by simp
theorem get_bl (s : ByteArray) (i : Nat) : (s.get! i).toNat = M.byteAt (bl s) i := by
  unfold M.byteAt
  by_cases h : i < s.size
  · rw [Utf8W.get!_of_lt s i h]
    have : (bl s)[i]? = some (s[i]) := by
      rw [List.getElem?_eq_getElem (by simpa using h)]
      rfl
    rw [this]; rfl
  · have h1 : (bl s)[i]? = none := List.getElem?_eq_none (by simp; omega)
    have h2 : s.get! i = 0 := by
      cases s with
      | mk d =>
        have hd : ¬ i < d.size := h
        exact getElem!_neg d i hd
    rw [h1, h2]; rfl
theorem decode_bl (s : ByteArray) (h : 0 < s.size) : Lib.decodeGo s = Lib.decodeN (bl s).length (M.byteAt (bl s) 0) (M.byteAt (bl s) 1) (M.byteAt (bl s) 2) (M.byteAt (bl s) 3) := by
  unfold Lib.decodeGo
  rw [if_neg (by omega), Lib.decode_at, get_bl, get_bl, get_bl, get_bl, bl_len]
  rfl

def SaysI (n : Nat) (w : World) (e : Ending) (w' : World) : Prop := e = .returned (.int .i64 (n : Int)) ∧ Below w.heap.size w w'

theorem lead_an {l : List UInt8} (h : l ≠ []) (ha : M.isAN (l[0]?.getD 0) = true) : M.lead l = 1 := by unfold M.lead; rw [if_neg h, if_pos ha]
theorem lead_low {l : List UInt8} (h : l ≠ []) (ha : M.isAN (l[0]?.getD 0) = false) (h2 : M.byteAt l 0 < 128) : M.lead l = 0 := by unfold M.lead; rw [if_neg h, if_neg (by simp [ha]), if_pos h2]
theorem lead_wide {l : List UInt8} (h : l ≠ []) (ha : M.isAN (l[0]?.getD 0) = false) (h2 : ¬ M.byteAt l 0 < 128) : M.lead l = if 1 < M.wide l then M.wide l else 0 := by unfold M.lead; rw [if_neg h, if_neg (by simp [ha]), if_neg h2]
theorem isAN_iff (c : UInt8) : M.isAN c = true ↔ (97 ≤ c.toNat ∧ c.toNat ≤ 122 ∨ 65 ≤ c.toNat ∧ c.toNat ≤ 90 ∨ 48 ≤ c.toNat ∧ c.toNat ≤ 57) := by unfold M.isAN; simp [or_assoc]

set_option maxHeartbeats 1000000 in
theorem letter_any (s : ByteArray) (w : World) (h : 0 < s.size) (hT : Tabs w) : Calls Tryz.prog 141 #[.string s] w (SaysI (M.lead (bl s)) w) := by
  have hne : bl s ≠ [] := by intro e; have h1 := bl_len s; rw [e] at h1; change 0 = s.size at h1; omega
  have hc0 : (bl s)[0]?.getD 0 = s[0] := by rw [List.getElem?_eq_getElem (by simpa using h)]; rfl
  have hb0 : M.byteAt (bl s) 0 = (s[0]).toNat := by unfold M.byteAt; rw [hc0]
  obtain ⟨x, hx⟩ : ∃ x, (s[0]).toNat = x := ⟨_, rfl⟩
  have hx256 : x < 256 := by rw [← hx]; exact UInt8.toNat_lt _
  have han := isAN_iff (s[0])
  rw [hx] at han hb0
  by_cases ha : M.isAN (s[0]) = true
  · have HL := Lib.hid (lead_an hne (by rw [hc0]; exact ha))
    have hcs := han.1 ha
    clear han hc0 hb0 hT ha
    by_cases h1 : 97 ≤ x <;> by_cases h2 : x ≤ 122 <;> by_cases h3 : 65 ≤ x <;> by_cases h4 : x ≤ 90 <;> by_cases h5 : 48 ≤ x <;> by_cases h6 : x ≤ 57 <;> first | (exfalso; omega) | skip
    all_goals
      go_enter Tryz.func141, Tryz.ntmps141
      go_wp2
      go_ret
      exact ⟨by rw [HL.out]; rfl, Below.refl _ _⟩
  · have hno : M.isAN (s[0]) = false := by simpa using ha
    have hcs : ¬ (97 ≤ x ∧ x ≤ 122 ∨ 65 ≤ x ∧ x ≤ 90 ∨ 48 ≤ x ∧ x ≤ 57) := fun h' => ha (han.2 h')
    by_cases h128 : x < 128
    · have HL := Lib.hid (lead_low hne (by rw [hc0]; exact hno) (by rw [hb0]; exact h128))
      clear han hc0 hb0 hT ha hno
      by_cases h1 : 97 ≤ x <;> by_cases h2 : x ≤ 122 <;> by_cases h3 : 65 ≤ x <;> by_cases h4 : x ≤ 90 <;> by_cases h5 : 48 ≤ x <;> by_cases h6 : x ≤ 57 <;> first | (exfalso; omega) | skip
      all_goals
        go_enter Tryz.func141, Tryz.ntmps141
        go_wp2
        go_ret
        exact ⟨by rw [HL.out]; rfl, Below.refl _ _⟩
    · have HL := Lib.hid (lead_wide hne (by rw [hc0]; exact hno) (by rw [hb0]; exact h128))
      have HC := Lib.hid (Tryz.utf8_DecodeRuneInString s w hT)
      have HW := Lib.hid (show (Lib.decodeGo s).2 = M.wide (bl s) by rw [decode_bl s h]; rfl)
      clear han hc0 hb0 hT ha hno hcs
      generalize (Lib.decodeGo s).1 = rr at *
      generalize (Lib.decodeGo s).2 = k at *
      by_cases hk : 1 < k
      · go_enter Tryz.func141, Tryz.ntmps141
        go_wp2_with fail
        refine HC.out.mono ?_
        rintro e w1 ⟨rfl, hb⟩
        go_wp2
        go_ret
        exact ⟨by rw [HL.out, ← HW.out, if_pos hk]; rfl, hb⟩
      · go_enter Tryz.func141, Tryz.ntmps141
        go_wp2_with fail
        refine HC.out.mono ?_
        rintro e w1 ⟨rfl, hb⟩
        go_wp2
        go_ret
        exact ⟨by rw [HL.out, ← HW.out, if_neg hk]; rfl, hb⟩
end Go.Proofs.YtfapkpaohkdfpaaGreatDoor
