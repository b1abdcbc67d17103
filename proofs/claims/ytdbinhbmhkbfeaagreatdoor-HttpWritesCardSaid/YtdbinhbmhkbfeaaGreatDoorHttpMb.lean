/-
  Heads of texts whose lines are known; what a cut and a longer text change. Plain mathematics.
-/
import Derived.Test.YtdbinhbmhkbfeaaGreatDoorHttpNum
namespace Go.Proofs.YtdbinhbmhkbfeaaGreatDoor.M
open Go

/-- what is known of a head that is there -/
theorem headF_yes : ∀ (f : Nat) (lines : List (List UInt8)) (k : Nat) (p : List UInt8) (ls : List (List UInt8)) (b : Nat), headF f lines k p = .yes ls b → (∀ l ∈ lines, l.length ≤ 2048) →
    ls ≠ [] ∧ k < b ∧ b ≤ p.length ∧ b ≤ 2048 ∧ ls.length ≤ lines.length + f ∧ ∀ l ∈ ls, l.length ≤ 2048 := by
  intro f
  induction f with
  | zero => intro lines k p ls b h; cases h
  | succ f ih =>
    intro lines k p ls b h hl
    unfold headF at h
    split at h
    · cases h
    · split at h
      · split at h <;> cases h
      · rename_i h1
        split at h
        · cases h
        · rename_i h2
          split at h
          · cases h
          · rename_i h3
            have hlen : k + fi 10 (p.drop k) < p.length := by rw [List.length_drop] at h1; omega
            split at h
            · rename_i h4
              injection h with e1 e2
              subst e1 e2
              exact ⟨h4.2, by omega, by omega, by omega, by omega, hl⟩
            · have := ih _ _ _ _ _ h (fun l hl' => by
                rcases List.mem_append.1 hl' with h5 | h5
                · exact hl l h5
                · rw [List.mem_singleton.1 h5]; simp; omega)
              refine ⟨this.1, by have := this.2.1; omega, this.2.2.1, this.2.2.2.1, ?_, this.2.2.2.2.2⟩
              have h6 := this.2.2.2.2.1
              simp at h6
              omega
theorem headF_yes' : ∀ (f : Nat) (lines : List (List UInt8)) (k : Nat) (p : List UInt8) (ls : List (List UInt8)) (b : Nat), headF f lines k p = .yes ls b → k < b := by
  intro f
  induction f with
  | zero => intro lines k p ls b h; cases h
  | succ f ih =>
    intro lines k p ls b h
    unfold headF at h
    split at h
    · cases h
    · split at h
      · split at h <;> cases h
      · split at h
        · cases h
        · split at h
          · cases h
          · split at h
            · injection h with _ e2; omega
            · have := ih _ _ _ _ _ h; omega
theorem heads_yes {p : List UInt8} {ls : List (List UInt8)} {b : Nat} (h : heads p = .yes ls b) : ls ≠ [] ∧ 0 < b ∧ b ≤ p.length ∧ b ≤ 2048 ∧ ls.length ≤ 34 ∧ ∀ l ∈ ls, l.length ≤ 2048 := by
  have := headF_yes 34 [] 0 p ls b h (fun l hl => by cases hl)
  simpa using this
theorem headF_no : ∀ (f : Nat) (lines : List (List UInt8)) (k : Nat) (p : List UInt8) (s : Nat), headF f lines k p = .no s → s ≤ 431 := by
  intro f
  induction f with
  | zero => intro lines k p s h; injection h with h; omega
  | succ f ih =>
    intro lines k p s h
    unfold headF at h
    split at h
    · injection h with h; omega
    · split at h
      · split at h <;> (injection h with h; omega)
      · split at h
        · injection h with h; omega
        · split at h
          · injection h with h; omega
          · split at h
            · cases h
            · exact ih _ _ _ _ h
theorem suffix13 {l : List UInt8} : Lib.hasSuffix l [13] = decide (l.length ≠ 0 ∧ l[l.length - 1]? = some 13) := by
  unfold Lib.hasSuffix
  rw [Bool.eq_iff_iff, decide_eq_true_eq]
  rcases List.eq_nil_or_concat l with e | ⟨r, c, e⟩
  · subst e; simp
  · rw [List.concat_eq_append] at e
    subst e
    have e1 : (r ++ [c]).length - 1 = r.length := by simp
    rw [e1, List.getElem?_append_right (Nat.le_refl _), Nat.sub_self]
    simp only [List.isSuffixOf, List.reverse_append, List.reverse_cons, List.reverse_nil, List.nil_append, List.cons_append, List.isPrefixOf, Bool.and_true, List.length_append, List.length_cons, List.length_nil, List.getElem?_cons_zero, Option.some.injEq, beq_iff_eq]
    constructor
    · intro h; exact ⟨by omega, h.symm⟩
    · intro h; exact h.2.symm
theorem fi_take {c : UInt8} : ∀ {l : List UInt8} {n : Nat}, fi c (l.take n) = min (fi c l) (l.take n).length := by
  intro l
  induction l with
  | nil => intro n; simp [fi]
  | cons b l ih =>
    intro n
    cases n with
    | zero => simp [fi]
    | succ n =>
      rw [List.take_succ_cons]
      unfold fi
      by_cases e : b = c
      · simp [e]
      · rw [if_neg e, if_neg e, ih, List.length_cons]; omega

/-- one line more -/
theorem headF_line {f k : Nat} {lines : List (List UInt8)} {p l r : List UInt8} (hd : p.drop k = l ++ 13 :: 10 :: r) (hn : lines.length ≤ 32) (h10 : (10 : UInt8) ∉ l) (hk : k + l.length + 1 < 2048) (hl : l ≠ [] ∨ lines = []) :
    headF (f + 1) lines k p = headF f (lines ++ [l]) (k + l.length + 2) p := by
  have hf : fi 10 (p.drop k) = l.length + 1 := by
    rw [hd, show l ++ 13 :: 10 :: r = (l ++ [13]) ++ 10 :: r by simp, fi_app (by simp [h10])]; simp
  conv => lhs; unfold headF
  rw [hf, hd, if_neg (by omega), if_neg (by simp), if_neg (by omega), if_neg, if_neg]
  · rw [show (l ++ 13 :: 10 :: r).take (l.length + 1 - 1) = l by simp, show k + (l.length + 1) + 1 = k + l.length + 2 by omega]
  · rintro ⟨h1, h2⟩
    rcases hl with hl | hl
    · exact hl (List.eq_nil_of_length_eq_zero (by omega))
    · exact h2 hl
  · simp
/-- the line that ends them -/
theorem headF_end {f k : Nat} {lines : List (List UInt8)} {p r : List UInt8} (hd : p.drop k = 13 :: 10 :: r) (hn : lines.length ≤ 32) (hk : k + 1 < 2048) (hl : lines ≠ []) : headF (f + 1) lines k p = .yes lines (k + 2) := by
  have hf : fi 10 (p.drop k) = 1 := by rw [hd]; simp [fi]
  conv => lhs; unfold headF
  rw [hf, hd, if_neg (by omega), if_neg (by simp), if_neg (by omega), if_neg (by simp), if_pos ⟨rfl, hl⟩]
/-- too long a line -/
theorem headF_far {f k : Nat} {lines : List (List UInt8)} {p l r : List UInt8} (hd : p.drop k = l ++ 10 :: r) (hn : lines.length ≤ 32) (h10 : (10 : UInt8) ∉ l) (hk : 2048 ≤ k + l.length) : headF (f + 1) lines k p = .no 431 := by
  have hf : fi 10 (p.drop k) = l.length := by rw [hd, fi_app h10]
  conv => lhs; unfold headF
  rw [hf, hd, if_neg (by omega), if_neg (by simp), if_pos (by omega)]
/-- too many lines -/
theorem headF_many {f k : Nat} {lines : List (List UInt8)} {p : List UInt8} (hn : 32 < lines.length) : headF f lines k p = .no 431 := by
  cases f with
  | zero => rfl
  | succ f => unfold headF; rw [if_pos hn]

/-- a head that is there, cut -/
theorem headF_cut : ∀ (f : Nat) (lines : List (List UInt8)) (k : Nat) (p : List UInt8) (ls : List (List UInt8)) (b n : Nat), headF f lines k p = .yes ls b → k ≤ n →
    headF f lines k (p.take n) = if b ≤ n then .yes ls b else .no 0 := by
  intro f
  induction f with
  | zero => intro lines k p ls b n h; cases h
  | succ f ih =>
    intro lines k p ls b n h hkn
    have hb := h
    have hlt := headF_yes' (f + 1) lines k p ls b h
    unfold headF at h
    split at h
    · cases h
    · rename_i h0
      split at h
      · split at h <;> cases h
      · rename_i h1
        split at h
        · cases h
        · rename_i h2
          split at h
          · cases h
          · rename_i h3
            have hdt : (p.take n).drop k = (p.drop k).take (n - k) := List.drop_take
            have hlen : k + fi 10 (p.drop k) < p.length := by rw [List.length_drop] at h1; omega
            have hfi : fi 10 ((p.take n).drop k) = min (fi 10 (p.drop k)) (min (n - k) (p.length - k)) := by rw [hdt, fi_take, List.length_take, List.length_drop]
            have hlen2 : ((p.take n).drop k).length = min (n - k) (p.length - k) := by rw [hdt, List.length_take, List.length_drop]
            by_cases hin : k + fi 10 (p.drop k) < n
            · have hfi2 : fi 10 ((p.take n).drop k) = fi 10 (p.drop k) := by rw [hfi]; omega
              have hat : ((p.take n).drop k)[fi 10 (p.drop k) - 1]? = (p.drop k)[fi 10 (p.drop k) - 1]? := by rw [hdt, List.getElem?_take, if_pos (by omega)]
              have htk : ((p.take n).drop k).take (fi 10 (p.drop k) - 1) = (p.drop k).take (fi 10 (p.drop k) - 1) := by rw [hdt, List.take_take, show min (fi 10 (p.drop k) - 1) (n - k) = fi 10 (p.drop k) - 1 by omega]
              conv => lhs; unfold headF
              rw [hfi2, hat, htk, if_neg h0, if_neg (by rw [hlen2]; omega), if_neg h2, if_neg h3]
              split at h
              · rename_i h4
                injection h with e1 e2
                rw [if_pos h4, if_pos (by omega), e1, e2]
              · rename_i h4
                rw [if_neg h4]
                exact ih _ _ _ _ _ _ h (by omega)
            · have hlt2 : k + fi 10 (p.drop k) < b := by
                split at h
                · injection h with _ e2; omega
                · have := headF_yes' f _ _ _ _ _ h; omega
              rw [if_neg (by omega)]
              conv => lhs; unfold headF
              have hpl : (p.take n).length ≤ 2048 := by rw [List.length_take]; omega
              rw [hfi, hlen2, if_neg h0, if_pos (by omega), if_neg (by omega)]
theorem heads_cut {p : List UInt8} {ls : List (List UInt8)} {b n : Nat} (h : heads p = .yes ls b) : heads (p.take n) = if b ≤ n then .yes ls b else .no 0 := headF_cut 34 [] 0 p ls b n h (Nat.zero_le _)
end Go.Proofs.YtdbinhbmhkbfeaaGreatDoor.M
