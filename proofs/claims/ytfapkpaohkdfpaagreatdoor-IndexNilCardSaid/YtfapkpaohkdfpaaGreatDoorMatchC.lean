/-
  Which can be entries: match.Form and the document's Form, by contracts.
-/
import Derived.Test.YtfapkpaohkdfpaaGreatDoorMatchB
namespace Go.Proofs.YtfapkpaohkdfpaaGreatDoor
open Go.RowKit Mem
set_option linter.unusedVariables false
set_option maxRecDepth 100000

def idB (c : UInt8) : Bool := decide (33 ≤ c.toNat ∧ c.toNat ≤ 126)
/-- so far all are fit -/
def Fit (id : List UInt8) (j : Nat) : Prop := id.all idB = (id.drop j).all idB
theorem Fit.start (id : List UInt8) : Fit id 0 := rfl
theorem Fit.stop {id : List UInt8} {j : Nat} (h : Fit id j) (hj : j < id.length) (hx : idB id[j] = false) : id.all idB = false := by
  rw [h, List.drop_eq_getElem_cons hj, List.all_cons, hx]; rfl
theorem Fit.step {id : List UInt8} {j : Nat} (h : Fit id j) (hj : j < id.length) (hx : idB id[j] = true) : Fit id (j + 1) := by
  unfold Fit at h ⊢
  rw [h, List.drop_eq_getElem_cons hj, List.all_cons, hx]; rfl
theorem Fit.end_ {id : List UInt8} {j : Nat} (h : Fit id j) (hj : id.length ≤ j) : id.all idB = true := by rw [h, List.drop_eq_nil_of_le hj]; rfl
theorem form_big {id text : List UInt8} (h : id.length = 0 ∨ 32 < id.length ∨ 512 < text.length) : M.formB id text = false := by
  unfold M.formB
  rcases h with h | h | h
  · simp [h]
  · have : ¬ id.length ≤ 32 := by omega
    simp [this]
  · have : ¬ text.length ≤ 512 := by omega
    simp [this]
theorem form_fit {id text : List UInt8} {b : Bool} (h1 : 0 < id.length) (h2 : id.length ≤ 32) (h3 : text.length ≤ 512) (h : id.all idB = b) : M.formB id text = b := by
  rw [← h]
  unfold M.formB idB
  simp [h1, h2, h3]

set_option maxHeartbeats 1000000 in
theorem form_any (d : M.D) (w : World) : Calls Tryz.prog 26 #[dval d] w (SaysB (M.formB d.id d.text) w) := by
  obtain ⟨id, tm, text⟩ := d
  unfold dval
  simp only
  have HB := Lib.hid ((Below.refl w.heap.size w).alloc (Nat.le_refl _) (.cells #[.string ⟨id.toArray⟩, .int .i64 tm, .string ⟨text.toArray⟩] 40))
  by_cases h0 : id = []
  · subst h0
    have HF := Lib.hid (form_big (id := []) (text := text) (.inl rfl))
    go_enter Tryz.func26, Tryz.ntmps26
    go_wp2
    go_ret
    exact ⟨by first | rfl | (rw [HF.out]; rfl), HB.out⟩
  · have hp : 0 < id.length := List.length_pos_iff.2 h0
    have hne : (id == []) = false := by rw [beq_str]; simpa using h0
    have hne2 : ¬ id.length < 1 := by omega
    have hne3 : ¬ (id.length : Int) < 1 := by omega
    clear h0
    by_cases h1 : 32 < id.length
    · have HF := Lib.hid (form_big (id := id) (text := text) (.inr (.inl h1)))
      have hq : decide ((32 : Int) < (id.length : Int)) = true := by simp; omega
      go_enter Tryz.func26, Tryz.ntmps26
      go_wp2
      go_ret
      exact ⟨by first | rfl | (rw [HF.out]; rfl), HB.out⟩
    · have hq : decide ((32 : Int) < (id.length : Int)) = false := by simp; omega
      by_cases h2 : 512 < text.length
      · have HF := Lib.hid (form_big (id := id) (text := text) (.inr (.inr h2)))
        have hq2 : decide ((512 : Int) < (text.length : Int)) = true := by simp; omega
        go_enter Tryz.func26, Tryz.ntmps26
        go_wp2
        go_ret
        exact ⟨by first | rfl | (rw [HF.out]; rfl), HB.out⟩
      · have hq2 : decide ((512 : Int) < (text.length : Int)) = false := by simp; omega
        have HFF := Lib.hid (fun b => form_fit (id := id) (text := text) (b := b) hp (by omega) (by omega))
        go_enter Tryz.func26, Tryz.ntmps26
        go_wp2
        clear hne hne2 hne3 hq2 h2 hq
        go_loop [22] (fun i => ∃ j : Nat, i = .int .i64 j ∧ j ≤ id.length ∧ Hid (Fit id j)) (fun i => id.length - (intOf i).toNat)
        case atStart => exact ⟨0, rfl, by omega, Lib.hid (Fit.start id)⟩
        case round =>
          obtain ⟨j, rfl, hj, HS⟩ := hrel
          by_cases hlt : j < id.length
          · obtain ⟨c, hc⟩ : ∃ c, (⟨id.toArray⟩ : ByteArray)[j]'hlt = c := ⟨_, rfl⟩
            have hc' : id[j] = c := hc
            cases hx : idB id[j] with
            | false =>
              have HF := Lib.hid (HFF.out false (HS.out.stop hlt hx))
              have hx1 : ¬ (33 ≤ id[j].toNat ∧ id[j].toNat ≤ 126) := by simpa [idB] using hx
              rw [hc'] at hx1
              clear hx hc'
              by_cases h3 : c.toNat < 33
              · have hq3 : decide ((c.toNat : Int) < 33) = true := by simp; omega
                go_wp2
                go_ret
                exact ⟨by first | rfl | (rw [HF.out]; rfl), HB.out⟩
              · have hq3 : decide ((c.toNat : Int) < 33) = false := by simp; omega
                have hq4 : decide (126 < (c.toNat : Int)) = true := by simp; omega
                go_wp2
                go_ret
                exact ⟨by first | rfl | (rw [HF.out]; rfl), HB.out⟩
            | true =>
              have HS2 := Lib.hid (HS.out.step hlt hx)
              have hx1 : 33 ≤ id[j].toNat ∧ id[j].toNat ≤ 126 := by simpa [idB] using hx
              rw [hc'] at hx1
              clear hx hc'
              have hq3 : decide ((c.toNat : Int) < 33) = false := by simp; omega
              have hq4 : decide (126 < (c.toNat : Int)) = false := by simp; omega
              go_wp2
              go_round
              case rel => exact ⟨j + 1, by go_num, by omega, HS2⟩
              case measure => simp [intOf]; omega
          · have HF := Lib.hid (HFF.out true (HS.out.end_ (by omega)))
            go_wp2
            go_ret
            exact ⟨by first | rfl | (rw [HF.out]; rfl), HB.out⟩

set_option maxHeartbeats 1000000 in
theorem ref_form_any (d : M.D) (w : World) : Calls Tryz.prog 28 #[dval d] w (SaysB (M.formB d.id d.text) w) := by
  obtain ⟨id, tm, text⟩ := d
  unfold dval
  simp only
  have HB := Lib.hid ((Below.refl w.heap.size w).alloc (Nat.le_refl _) (.cells #[.string ⟨id.toArray⟩, .int .i64 tm, .string ⟨text.toArray⟩] 40))
  by_cases h0 : id = []
  · subst h0
    have HF := Lib.hid (form_big (id := []) (text := text) (.inl rfl))
    go_enter Tryz.func28, Tryz.ntmps28
    go_wp2
    go_ret
    exact ⟨by first | rfl | (rw [HF.out]; rfl), HB.out⟩
  · have hp : 0 < id.length := List.length_pos_iff.2 h0
    have hne : (id == []) = false := by rw [beq_str]; simpa using h0
    have hne2 : ¬ id.length < 1 := by omega
    have hne3 : ¬ (id.length : Int) < 1 := by omega
    clear h0
    by_cases h1 : 32 < id.length
    · have HF := Lib.hid (form_big (id := id) (text := text) (.inr (.inl h1)))
      have hq : decide ((32 : Int) < (id.length : Int)) = true := by simp; omega
      go_enter Tryz.func28, Tryz.ntmps28
      go_wp2
      go_ret
      exact ⟨by first | rfl | (rw [HF.out]; rfl), HB.out⟩
    · have hq : decide ((32 : Int) < (id.length : Int)) = false := by simp; omega
      by_cases h2 : 512 < text.length
      · have HF := Lib.hid (form_big (id := id) (text := text) (.inr (.inr h2)))
        have hq2 : decide ((512 : Int) < (text.length : Int)) = true := by simp; omega
        go_enter Tryz.func28, Tryz.ntmps28
        go_wp2
        go_ret
        exact ⟨by first | rfl | (rw [HF.out]; rfl), HB.out⟩
      · have hq2 : decide ((512 : Int) < (text.length : Int)) = false := by simp; omega
        have HFF := Lib.hid (fun b => form_fit (id := id) (text := text) (b := b) hp (by omega) (by omega))
        go_enter Tryz.func28, Tryz.ntmps28
        go_wp2
        clear hne hne2 hne3 hq2 h2 hq
        go_loop [3] (fun i => ∃ j : Nat, i = .int .i64 j ∧ j ≤ id.length ∧ Hid (Fit id j)) (fun i => id.length - (intOf i).toNat)
        case atStart => exact ⟨0, rfl, by omega, Lib.hid (Fit.start id)⟩
        case round =>
          obtain ⟨j, rfl, hj, HS⟩ := hrel
          by_cases hlt : j < id.length
          · obtain ⟨c, hc⟩ : ∃ c, (⟨id.toArray⟩ : ByteArray)[j]'hlt = c := ⟨_, rfl⟩
            have hc' : id[j] = c := hc
            cases hx : idB id[j] with
            | false =>
              have HF := Lib.hid (HFF.out false (HS.out.stop hlt hx))
              have hx1 : ¬ (33 ≤ id[j].toNat ∧ id[j].toNat ≤ 126) := by simpa [idB] using hx
              rw [hc'] at hx1
              clear hx hc'
              by_cases h3 : c.toNat < 33
              · have hq3 : decide ((c.toNat : Int) < 33) = true := by simp; omega
                go_wp2
                go_ret
                exact ⟨by first | rfl | (rw [HF.out]; rfl), HB.out⟩
              · have hq3 : decide ((c.toNat : Int) < 33) = false := by simp; omega
                have hq4 : decide (126 < (c.toNat : Int)) = true := by simp; omega
                go_wp2
                go_ret
                exact ⟨by first | rfl | (rw [HF.out]; rfl), HB.out⟩
            | true =>
              have HS2 := Lib.hid (HS.out.step hlt hx)
              have hx1 : 33 ≤ id[j].toNat ∧ id[j].toNat ≤ 126 := by simpa [idB] using hx
              rw [hc'] at hx1
              clear hx hc'
              have hq3 : decide ((c.toNat : Int) < 33) = false := by simp; omega
              have hq4 : decide (126 < (c.toNat : Int)) = false := by simp; omega
              go_wp2
              go_round
              case rel => exact ⟨j + 1, by go_num, by omega, HS2⟩
              case measure => simp [intOf]; omega
          · have HF := Lib.hid (HFF.out true (HS.out.end_ (by omega)))
            go_wp2
            go_ret
            exact ⟨by first | rfl | (rw [HF.out]; rfl), HB.out⟩

end Go.Proofs.YtfapkpaohkdfpaaGreatDoor
