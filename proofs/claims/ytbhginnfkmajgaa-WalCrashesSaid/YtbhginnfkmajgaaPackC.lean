/-
  What the document's ReadUvarint does, by a contract: it answers 'M.rdAt' of the bytes and the place; what was there has not turned.
-/
import Derived.Test.YtbhginnfkmajgaaPackB
import Derived.Deep.QuietTactic
import Derived.BigQuiet
namespace Go.Proofs.Ytbhginnfkmajgaa
open Go.RowKit Mem

def TellsB (r : Nat × Nat × Nat) (w : World) (e : Ending) (w' : World) : Prop := e = .returned (.tuple #[.int .u64 (r.1 : Int), .int .i64 (r.2.1 : Int), .int .i64 (r.2.2 : Int)]) ∧ Below w.heap.size w w'

section
variable {d : List UInt8} {j x : Nat}
theorem goOn_le (d : List UInt8) : M.goOn d ≤ d.length := by unfold M.goOn; exact (List.takeWhile_sublist _).length_le
theorem goOn_more : ∀ (d : List UInt8) (j : Nat), j ≤ M.goOn d → (h : j < d.length) → 128 ≤ d[j].toNat → j + 1 ≤ M.goOn d := by
  intro d
  induction d with
  | nil => intro j _ h; simp at h
  | cons b d ih =>
    intro j hj h hb
    unfold M.goOn at hj ⊢
    rw [List.takeWhile_cons] at hj ⊢
    cases j with
    | zero => simp at hb; simp [hb]
    | succ j =>
      by_cases hp : decide (128 ≤ b.toNat) = true
      · rw [if_pos hp] at hj ⊢
        simp only [List.length_cons] at hj h ⊢
        have := ih j (by unfold M.goOn; omega) (by omega) (by simpa using hb)
        unfold M.goOn at this; omega
      · rw [if_neg hp] at hj; simp at hj
theorem goOn_stop : ∀ (d : List UInt8) (j : Nat), j ≤ M.goOn d → (h : j < d.length) → d[j].toNat < 128 → M.goOn d = j := by
  intro d
  induction d with
  | nil => intro j _ h; simp at h
  | cons b d ih =>
    intro j hj h hb
    unfold M.goOn at hj ⊢
    rw [List.takeWhile_cons] at hj ⊢
    cases j with
    | zero =>
      have : ¬ decide (128 ≤ b.toNat) = true := by simp at hb ⊢; omega
      rw [if_neg this]; rfl
    | succ j =>
      by_cases hp : decide (128 ≤ b.toNat) = true
      · rw [if_pos hp] at hj ⊢
        simp only [List.length_cons] at hj h ⊢
        have := ih j (by unfold M.goOn; omega) (by omega) (by simpa using hb)
        unfold M.goOn at this; omega
      · rw [if_neg hp] at hj; simp at hj
theorem none_long (h : 10 ≤ M.goOn d) : M.rd 0 0 d = none := by
  cases hr : M.rd 0 0 d with
  | none => rfl
  | some p => have := M.elder_yes d p.1 p.2 hr; omega
theorem none_all (h : d.length ≤ M.goOn d) : M.rd 0 0 d = none := by
  cases hr : M.rd 0 0 d with
  | none => rfl
  | some p => have := M.elder_yes d p.1 p.2 hr; omega
theorem getD_drop (l : List UInt8) (k j : Nat) (h : k + j < l.length) : (l[k + j]?.getD 0) = (l.drop k)[j]'(by simp; omega) := by
  rw [List.getElem?_eq_getElem h]; simp
/-- the value of the bytes from the i-th on, as uint64 reckons it -/
def back (l : List UInt8) (k j i : Nat) : Nat := M.val (((l.drop k).take (j + 1)).drop i) % 18446744073709551616
theorem back_start (l : List UInt8) (k j : Nat) : back l k j (j + 1) = 0 := by
  unfold back
  rw [List.drop_eq_nil_of_le (by simp; omega)]; rfl
theorem back_step (l : List UInt8) (k j i : Nat) (hi : i ≤ j) (h : k + j < l.length) (hx : x = (l[k + i]?.getD 0).toNat) : back l k j i = (back l k j (i + 1) * 128 % 18446744073709551616 + x % 128) % 18446744073709551616 := by
  unfold back
  have hl : i < ((l.drop k).take (j + 1)).length := by simp; omega
  have hxx : x = (((l.drop k).take (j + 1))[i]).toNat := by
    rw [hx, getD_drop l k i (by omega)]; simp
  rw [List.drop_eq_getElem_cons hl, M.val, ← hxx]
  omega
/-- what the comparison comes to -/
theorem elder_says (l : List UInt8) (k j : Nat) (hg : M.goOn (l.drop k) = j) :
    (M.uv (back l k j 0) = (l.drop k).take (j + 1) ∧ M.rd 0 0 (l.drop k) = some (back l k j 0, j + 1)) ∨ (M.uv (back l k j 0) ≠ (l.drop k).take (j + 1) ∧ M.rd 0 0 (l.drop k) = none) := by
  cases hr : M.rd 0 0 (l.drop k) with
  | none =>
    right
    refine ⟨?_, rfl⟩
    have := M.elder_no _ hr (back l k j 0) (Nat.mod_lt _ (by omega))
    rwa [hg] at this
  | some p =>
    left
    obtain ⟨x, n⟩ := p
    obtain ⟨h1, h2, h3, h4, h5, h6⟩ := M.elder_yes _ x n hr
    rw [hg] at h1 h4 h5
    have hb : back l k j 0 = x := by
      unfold back
      rw [List.drop_zero, h4]; omega
    rw [hb]
    exact ⟨h5, by rw [h1]⟩
end

end Go.Proofs.Ytbhginnfkmajgaa
