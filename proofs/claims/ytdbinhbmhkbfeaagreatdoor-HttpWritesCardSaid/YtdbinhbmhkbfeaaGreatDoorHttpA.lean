/-
  What http.isName, isPath and isValue do, by contracts (but for isPath's HasPrefix).
-/
import Derived.Test.YtdbinhbmhkbfeaaGreatDoorRows
import Derived.Test.YtdbinhbmhkbfeaaGreatDoorHttpMath
import Derived.Test.YtdbinhbmhkbfeaaGreatDoorMemW
import Derived.Test.YtdbinhbmhkbfeaaGreatDoorTurn
import Derived.Lib.Hide
import Derived.Deep.DeepMust
import Derived.Laws.RangeAny
import Derived.BigQuiet
import Derived.Deep.QuietTactic
namespace Go.Proofs.YtdbinhbmhkbfeaaGreatDoor
open Go.RowKit Mem
set_option linter.unusedVariables false
set_option maxRecDepth 100000

abbrev bl (s : ByteArray) : List UInt8 := s.data.toList
theorem bl_len (s : ByteArray) : (bl s).length = s.size := by simp
theorem bl_get (s : ByteArray) (i : Nat) (h : i < s.size) : (bl s)[i]'(by simpa using h) = s[i] := rfl
theorem bl_from (s : ByteArray) (a : Nat) : bl (s.extract a s.size) = (bl s).drop a := by
  show (s.extract a s.size).data.toList = _
  rw [Lib.extract_data, List.take_of_length_le (by simp)]
theorem bl_cut (s : ByteArray) (a b : Nat) : bl (s.extract a b) = ((bl s).take b).drop a := by
  show (s.extract a b).data.toList = _
  rw [Lib.extract_data, List.drop_take]
def SaysI (n : Nat) (w : World) (e : Ending) (w' : World) : Prop := e = .returned (.int .i64 (n : Int)) ∧ Below w.heap.size w w'
def SaysB (b : Bool) (w : World) (e : Ending) (w' : World) : Prop := e = .returned (.bool b) ∧ Below w.heap.size w w'
def SaysT (l : List UInt8) (w : World) (e : Ending) (w' : World) : Prop := e = .returned (.string ⟨l.toArray⟩) ∧ Below w.heap.size w w'
theorem eq_str (a : List UInt8) (s : ByteArray) : (a == s.toList) = decide (a = bl s) := by
  rw [Lib.toList_data, Bool.eq_iff_iff]
  simp
theorem bel_drewN {B : Nat} {w w' : World} (h : Below B w w') (n : Nat) : Below B w (w'.drewN n) := ⟨h.os, h.tape, h.output, h.size, h.block⟩
theorem bel_iter (w : World) (s : ByteArray) (p : Nat) : Below w.heap.size w (w.iter s p) := (Below.refl _ w).alloc (Nat.le_refl _) _

/-- the first bytes are all so -/
def PreAll (f : UInt8 → Bool) (l : List UInt8) (k : Nat) : Prop := (l.take k).all f = true
theorem PreAll.zero (f : UInt8 → Bool) (l : List UInt8) : PreAll f l 0 := by simp [PreAll]
theorem PreAll.next {f : UInt8 → Bool} {l : List UInt8} {k : Nat} (h : PreAll f l k) (hk : k < l.length) (hf : f l[k] = true) : PreAll f l (k + 1) := by
  unfold PreAll at *
  rw [List.take_succ_eq_append_getElem hk, List.all_append, h]
  simp [hf]
theorem PreAll.whole {f : UInt8 → Bool} {l : List UInt8} {k : Nat} (h : PreAll f l k) (hk : l.length ≤ k) : l.all f = true := by
  unfold PreAll at h
  rwa [List.take_of_length_le hk] at h
theorem PreAll.run {f : UInt8 → Bool} {l : List UInt8} {k : Nat} (h : PreAll f l k) : ∀ n, (∀ j, j < n → ∃ hj : k + j < l.length, f l[k + j] = true) → PreAll f l (k + n) := by
  intro n
  induction n with
  | zero => intro _; exact h
  | succ n ih =>
    intro hn
    obtain ⟨hj, hf⟩ := hn n (by omega)
    exact (ih (fun j hj => hn j (by omega))).next hj hf
theorem all_false {f : UInt8 → Bool} {l : List UInt8} {k : Nat} (hk : k < l.length) (hf : f l[k] = false) : l.all f = false := by
  rw [Bool.eq_false_iff]
  intro h
  rw [List.all_eq_true] at h
  rw [h _ (List.getElem_mem hk)] at hf
  cases hf

theorem nameB_iff (c : UInt8) : M.nameB c = true ↔ (97 ≤ c.toNat ∧ c.toNat ≤ 122) ∨ (65 ≤ c.toNat ∧ c.toNat ≤ 90) ∨ (48 ≤ c.toNat ∧ c.toNat ≤ 57) ∨ c.toNat = 45 ∨ c.toNat = 95 := by
  unfold M.nameB; simp [or_assoc]
theorem pathB_iff (c : UInt8) : M.pathB c = true ↔ (33 ≤ c.toNat ∧ c.toNat ≤ 126) := by unfold M.pathB; simp
theorem valB_iff (c : UInt8) : M.valB c = true ↔ ¬ ((c.toNat < 32 ∧ c.toNat ≠ 9) ∨ c.toNat = 127) := by
  unfold M.valB
  rw [Bool.not_eq_true', Bool.or_eq_false_iff, decide_eq_false_iff_not, decide_eq_false_iff_not]
  omega
theorem data_ne (s : ByteArray) (h : 0 < s.size) : bl s ≠ [] := by intro e; have h1 := bl_len s; rw [e] at h1; change 0 = s.size at h1; omega

set_option maxHeartbeats 2000000 in
theorem isName_any (s : ByteArray) (w : World) : Calls Tryz.prog 44 #[.string s] w (SaysB (M.isName (bl s)) w) := by
  have H0 := Lib.hid (PreAll.zero M.nameB (bl s))
  go_enter Tryz.func44, Tryz.ntmps44
  go_wp2
  go_loopw [2] (fun _ w' => ∃ pos : Nat, w' = w.iter s pos ∧ Hid (PreAll M.nameB (bl s) pos)) (fun _ w' => s.size - w'.iterPos w.heap.size)
  case atStart => exact ⟨0, rfl, H0⟩
  case round =>
    obtain ⟨pos, rfl, HI⟩ := hrel
    by_cases hp : pos < s.size
    · have hpl : pos < (bl s).length := by rw [bl_len]; exact hp
      have hnx : ∀ ty, (Instr.next (.pointer (some ⟨w.heap.size, 0, none⟩)) true ty).run Tryz.prog (w.iter s pos) = _ := fun ty => run_next_any w s pos ty hp
      have hiff := nameB_iff (s[pos])
      by_cases ha : (s[pos]).toNat < 128
      · rw [decode_ascii s pos hp ha] at hnx
        have HN := Lib.hid (HI.out.next hpl)
        have HF := Lib.hid (all_false (f := M.nameB) hpl)
        have e : (bl s)[pos] = s[pos] := rfl
        rw [e] at HN HF
        obtain ⟨x, hx⟩ : ∃ x, (s[pos]).toNat = x := ⟨_, rfl⟩
        rw [hx] at hiff hnx ha
        simp only at hnx
        generalize M.nameB s[pos] = q at *
        clear e hx hpl
        by_cases hq : q = true
        · have hc := hiff.1 hq
          have HQ := Lib.hid hq
          clear hiff hq
          by_cases h1 : 97 ≤ x <;> by_cases h2 : x ≤ 122 <;> by_cases h3 : 65 ≤ x <;> by_cases h4 : x ≤ 90 <;> by_cases h5 : 48 ≤ x <;> by_cases h6 : x ≤ 57 <;> by_cases h7 : x = 45 <;> by_cases h8 : x = 95 <;> first | (exfalso; omega) | skip
          all_goals
            clear hc
            go_wp2
            go_roundw
            case rel => exact ⟨pos + 1, rfl, Lib.hid (HN.out HQ.out)⟩
            case measure => simp; omega
        · have hc : ¬ _ := fun h => hq (hiff.2 h)
          have HQ := Lib.hid (show M.isName (bl s) = false by unfold M.isName; rw [HF.out (by simpa using hq)]; rfl)
          clear hiff hq
          by_cases h1 : 97 ≤ x <;> by_cases h2 : x ≤ 122 <;> by_cases h3 : 65 ≤ x <;> by_cases h4 : x ≤ 90 <;> by_cases h5 : 48 ≤ x <;> by_cases h6 : x ≤ 57 <;> first | (exfalso; omega) | skip
          all_goals
            have h7 : ¬ x = 45 := by omega
            have h8 : ¬ x = 95 := by omega
            clear hc
            go_wp2
            go_ret
            exact ⟨by rw [HQ.out]; rfl, bel_iter _ _ _⟩
      · have hd := decode_high s pos hp (by omega)
        have HQ := Lib.hid (show M.isName (bl s) = false by
          unfold M.isName
          rw [all_false (f := M.nameB) hpl (by rw [Bool.eq_false_iff]; intro h; have := (nameB_iff _).1 h; rw [show (bl s)[pos] = s[pos] from rfl] at this; omega)]; rfl)
        obtain ⟨hd1, hd2⟩ := hd
        generalize (Utf8.decode s pos).1 = r at *
        generalize (Utf8.decode s pos).2 = k at *
        clear hiff ha hpl
        go_wp2
        go_ret
        exact ⟨by rw [HQ.out]; rfl, bel_iter _ _ _⟩
    · have hnx : ∀ ty, (Instr.next (.pointer (some ⟨w.heap.size, 0, none⟩)) true ty).run Tryz.prog (w.iter s pos) = _ := fun ty => run_next_end w s pos ty hp
      have HA := Lib.hid (HI.out.whole (by rw [bl_len]; omega))
      go_wp2
      go_ret
      refine ⟨?_, bel_iter _ _ _⟩
      unfold M.isName
      rw [HA.out]
      simp [Lib.toList_data]
      rw [Bool.eq_iff_iff]
      simp

set_option maxHeartbeats 2000000 in
theorem isValue_any (s : ByteArray) (w : World) : Calls Tryz.prog 47 #[.string s] w (SaysB (M.isValue (bl s)) w) := by
  have H0 := Lib.hid (PreAll.zero M.valB (bl s))
  go_enter Tryz.func47, Tryz.ntmps47
  go_wp2
  go_loopw [2] (fun _ w' => ∃ pos : Nat, w' = w.iter s pos ∧ Hid (PreAll M.valB (bl s) pos)) (fun _ w' => s.size - w'.iterPos w.heap.size)
  case atStart => exact ⟨0, rfl, H0⟩
  case round =>
    obtain ⟨pos, rfl, HI⟩ := hrel
    by_cases hp : pos < s.size
    · have hpl : pos < (bl s).length := by rw [bl_len]; exact hp
      have hnx : ∀ ty, (Instr.next (.pointer (some ⟨w.heap.size, 0, none⟩)) true ty).run Tryz.prog (w.iter s pos) = _ := fun ty => run_next_any w s pos ty hp
      have hiff := valB_iff (s[pos])
      by_cases ha : (s[pos]).toNat < 128
      · rw [decode_ascii s pos hp ha] at hnx
        have HN := Lib.hid (HI.out.next hpl)
        have HF := Lib.hid (all_false (f := M.valB) hpl)
        have e : (bl s)[pos] = s[pos] := rfl
        rw [e] at HN HF
        obtain ⟨x, hx⟩ : ∃ x, (s[pos]).toNat = x := ⟨_, rfl⟩
        rw [hx] at hiff hnx ha
        simp only at hnx
        generalize M.valB s[pos] = q at *
        clear e hx hpl
        by_cases hq : q = true
        · have hc := hiff.1 hq
          have HQ := Lib.hid hq
          clear hiff hq
          by_cases h1 : x < 32 <;> by_cases h2 : x = 9 <;> by_cases h3 : x = 127 <;> first | (exfalso; omega) | skip
          all_goals
            clear hc
            go_wp2
            go_roundw
            case rel => exact ⟨pos + 1, rfl, Lib.hid (HN.out HQ.out)⟩
            case measure => simp; omega
        · have hc : ¬ _ := fun h => hq (hiff.2 h)
          have HQ := Lib.hid (show M.isValue (bl s) = false by unfold M.isValue; rw [HF.out (by simpa using hq)])
          clear hiff hq
          by_cases h1 : x < 32 <;> by_cases h2 : x = 9 <;> by_cases h3 : x = 127 <;> first | (exfalso; omega) | skip
          all_goals
            clear hc
            go_wp2
            go_ret
            exact ⟨by rw [HQ.out]; rfl, bel_iter _ _ _⟩
      · have hd := decode_high s pos hp (by omega)
        have ht := M.decode_tail s pos hp (by omega)
        have HN := Lib.hid (HI.out.run (Utf8.decode s pos).2 (fun j hj => by
          obtain ⟨h1, h2⟩ := ht j hj
          refine ⟨by rw [bl_len]; exact h1, (valB_iff _).2 ?_⟩
          have e2 : s.get! (pos + j) = (bl s)[pos + j]'(by rw [bl_len]; exact h1) := by
            have := get_at s (pos + j) h1
            rw [Nat.add_zero] at this
            rw [this]; rfl
          rw [e2] at h2
          omega))
        obtain ⟨hd1, hd2⟩ := hd
        clear ht
        generalize (Utf8.decode s pos).1 = r at *
        generalize (Utf8.decode s pos).2 = k at *
        clear hiff ha hpl
        have h9 : ¬ r = 9 := by omega
        by_cases h127 : r = 127
        · exfalso; omega
        · go_wp2
          go_roundw
          case rel => exact ⟨pos + k, rfl, HN⟩
          case measure => simp; omega
    · have hnx : ∀ ty, (Instr.next (.pointer (some ⟨w.heap.size, 0, none⟩)) true ty).run Tryz.prog (w.iter s pos) = _ := fun ty => run_next_end w s pos ty hp
      have HA := Lib.hid (show M.isValue (bl s) = true from HI.out.whole (by rw [bl_len]; omega))
      go_wp2
      go_ret
      exact ⟨by rw [HA.out]; rfl, bel_iter _ _ _⟩
end Go.Proofs.YtdbinhbmhkbfeaaGreatDoor
