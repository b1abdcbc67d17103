/-
  What the laws' in does; the law WordsJoin.
-/
import Derived.Test.YtfapkpaohkdfpaaGreatDoorWordsJ
namespace Go.Proofs.YtfapkpaohkdfpaaGreatDoor
open Go.RowKit Mem
set_option linter.unusedVariables false
set_option maxRecDepth 100000

theorem beq_str (a b : List UInt8) : (a == b) = decide (a = b) := by rw [Bool.eq_iff_iff]; simp

theorem bl_join (s t : ByteArray) : bl (s ++ (⟨#[32]⟩ : ByteArray) ++ t) = bl s ++ 32 :: bl t := by
  show ((s ++ (⟨#[32]⟩ : ByteArray)) ++ t).data.toList = _
  rw [ByteArray.data_append, ByteArray.data_append]
  simp
theorem size_join (s t : ByteArray) : (s ++ (⟨#[32]⟩ : ByteArray) ++ t).size = s.size + 1 + t.size := by
  rw [← bl_len, bl_join]
  simp
  omega

theorem put_len : ∀ (l : List (List UInt8)) (x : List UInt8), (M.put l x).length ≤ l.length + 1 := by
  intro l
  induction l with
  | nil => intro x; simp [M.put]
  | cons y r ih =>
    intro x
    rw [M.put]
    have := ih x
    repeat' split
    all_goals simp only [List.length_cons]; omega
theorem foldl_len (l : List (List UInt8)) : ∀ acc : List (List UInt8), (l.foldl M.put acc).length ≤ acc.length + l.length := by
  induction l with
  | nil => intro acc; simp
  | cons x r ih =>
    intro acc
    rw [List.foldl_cons]
    have h1 := ih (M.put acc x)
    have h2 := put_len acc x
    simp only [List.length_cons]
    omega
theorem raw_len (s : List UInt8) : ∀ (l : List M.W) (p : Option M.W), (M.raw s p l).length ≤ 2 * l.length := by
  intro l
  induction l with
  | nil => intro p; cases p <;> simp [M.raw]
  | cons w r ih =>
    intro p
    have := ih (some w)
    cases p with
    | none => rw [M.raw]; simp only [List.length_cons]; omega
    | some p =>
      rw [M.raw]
      simp only [List.length_cons, List.length_append]
      split <;> simp <;> omega
theorem terms_len (l : List UInt8) : (M.terms l).length ≤ 2 * l.length := by
  have h1 := foldl_len (M.raw l none (M.words l)) []
  have h2 := raw_len l (M.words l) none
  have h3 := M.words_len l 0
  change (M.words l).length ≤ _ at h3
  show (List.foldl M.put [] _).length ≤ _
  simp only [List.length_nil] at h1
  omega

def bothP (xs ys : List (List UInt8)) (z : List UInt8) : Bool := decide (z ∈ xs) && decide (z ∈ ys)
theorem count_step (p : List UInt8 → Bool) (zs : List (List UInt8)) (i : Nat) (h : i < zs.length) : (zs.take (i + 1)).countP p = (zs.take i).countP p + (if p zs[i] then 1 else 0) := by
  rw [List.take_succ_eq_append_getElem h, List.countP_append, List.countP_singleton]
theorem count_le (p : List UInt8 → Bool) (zs : List (List UInt8)) (i : Nat) : (zs.take i).countP p ≤ i := Nat.le_trans List.countP_le_length (by simp; omega)

end Go.Proofs.YtfapkpaohkdfpaaGreatDoor
