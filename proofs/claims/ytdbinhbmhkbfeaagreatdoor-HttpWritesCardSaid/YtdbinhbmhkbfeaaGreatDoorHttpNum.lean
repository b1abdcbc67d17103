/-
  Numbers in digits: the one form of each; a text without what stands about it. Plain mathematics.
-/
import Derived.Test.YtdbinhbmhkbfeaaGreatDoorHttpMath
namespace Go.Proofs.YtdbinhbmhkbfeaaGreatDoor.M
open Go

def digB (c : UInt8) : Bool := decide (48 ≤ c.toNat ∧ c.toNat ≤ 57)
def dstep (n : Nat) (c : UInt8) : Nat := 10 * n + (c.toNat - 48)
def dval (l : List UInt8) : Nat := l.foldl dstep 0
def canon (l : List UInt8) : Bool := decide (l ≠ []) && l.all digB && decide (l.length ≤ 1 ∨ l.head? ≠ some 48)
theorem canon_iff (l : List UInt8) : canon l = true ↔ l ≠ [] ∧ l.all digB = true ∧ (l.length ≤ 1 ∨ l.head? ≠ some 48) := by
  unfold canon; simp only [Bool.and_eq_true, decide_eq_true_eq, and_assoc]
theorem dval_snoc (l : List UInt8) (c : UInt8) : dval (l ++ [c]) = 10 * dval l + (c.toNat - 48) := by simp [dval, dstep]
theorem digB_of (d : Nat) (h : d < 10) : digB (UInt8.ofNat (48 + d)) = true ∧ (UInt8.ofNat (48 + d)).toNat = 48 + d := by
  have e : (UInt8.ofNat (48 + d)).toNat = 48 + d := by rw [UInt8.toNat_ofNat']; omega
  exact ⟨by unfold digB; rw [e]; simp; omega, e⟩
theorem dec_small {u : Nat} (h : u < 10) : Lib.decDigits u = [UInt8.ofNat (48 + u)] := Lib.decDigits_one h
theorem dec_big {u : Nat} (h : ¬ u < 10) : Lib.decDigits u = Lib.decDigits (u / 10) ++ [UInt8.ofNat (48 + u % 10)] := by rw [Lib.decDigits, dif_neg h]
theorem dec_canon : ∀ u : Nat, canon (Lib.decDigits u) = true ∧ dval (Lib.decDigits u) = u ∧ (0 < u → (Lib.decDigits u).head? ≠ some 48) := by
  intro u
  induction u using Nat.strongRecOn with
  | ind u ih =>
    by_cases h : u < 10
    · rw [dec_small h]
      have hd := digB_of u h
      refine ⟨(canon_iff _).2 ⟨by simp, by rw [List.all_cons, hd.1]; rfl, .inl (by simp)⟩, ?_, fun h0 e => ?_⟩
      · show 10 * 0 + ((UInt8.ofNat (48 + u)).toNat - 48) = u
        rw [hd.2]; omega
      · simp only [List.head?_cons, Option.some.injEq] at e
        have := congrArg UInt8.toNat e
        rw [hd.2] at this
        change 48 + u = 48 at this
        omega
    · obtain ⟨h1, h2, h3⟩ := ih (u / 10) (by omega)
      rw [canon_iff] at h1
      have hd := digB_of (u % 10) (by omega)
      have hh : (Lib.decDigits u).head? ≠ some 48 := by
        rw [dec_big h]
        obtain ⟨a, r, e⟩ := List.exists_cons_of_ne_nil h1.1
        have := h3 (by omega)
        rw [e] at this ⊢
        simpa using this
      refine ⟨(canon_iff _).2 ⟨by rw [dec_big h]; simp, by rw [dec_big h, List.all_append, h1.2.1, List.all_cons, hd.1]; rfl, .inr hh⟩, ?_, fun _ => hh⟩
      rw [dec_big h, dval_snoc, h2, hd.2]
      omega
theorem dec_dval : ∀ l : List UInt8, canon l = true → Lib.decDigits (dval l) = l ∧ (l.head? ≠ some 48 → 0 < dval l) := by
  intro l
  induction hn : l.length using Nat.strongRecOn generalizing l with
  | ind n ih =>
    intro hc
    rw [canon_iff] at hc
    obtain ⟨hne, hall, hh⟩ := hc
    rcases List.eq_nil_or_concat l with e | ⟨r, c, e⟩
    · exact absurd e hne
    · rw [List.concat_eq_append] at e
      subst e
      rw [List.all_append, Bool.and_eq_true] at hall
      have hcd : 48 ≤ c.toNat ∧ c.toNat ≤ 57 := by have := hall.2; simpa [digB] using this
      have hback : UInt8.ofNat (48 + (c.toNat - 48)) = c := by rw [show 48 + (c.toNat - 48) = c.toNat by omega, UInt8.ofNat_toNat]
      rw [dval_snoc]
      by_cases hr : r = []
      · subst hr
        have e0 : dval ([] : List UInt8) = 0 := rfl
        rw [e0, Nat.mul_zero, Nat.zero_add]
        refine ⟨by rw [dec_small (by omega), hback]; rfl, fun h48 => ?_⟩
        rcases Nat.eq_zero_or_pos (c.toNat - 48) with h0 | h0
        · exfalso; apply h48
          have : c.toNat = 48 := by omega
          simp only [List.nil_append, List.head?_cons]
          rw [← UInt8.ofNat_toNat (x := c), this]; rfl
        · exact h0
      · obtain ⟨a, r', er⟩ := List.exists_cons_of_ne_nil hr
        have hhr : r.head? ≠ some 48 := by
          rcases hh with h1 | h1
          · exfalso; rw [er] at h1; simp at h1
          · rw [er] at h1 ⊢; simpa using h1
        obtain ⟨i1, i2⟩ := ih r.length (by rw [← hn]; simp) r rfl ((canon_iff r).2 ⟨hr, hall.1, .inr hhr⟩)
        have hp := i2 hhr
        refine ⟨?_, fun _ => by omega⟩
        rw [dec_big (by omega), show (10 * dval r + (c.toNat - 48)) / 10 = dval r by omega, show (10 * dval r + (c.toNat - 48)) % 10 = c.toNat - 48 by omega, i1, hback]
theorem dval_lt : ∀ l : List UInt8, l.all digB = true → dval l < 10 ^ l.length := by
  intro l
  induction hn : l.length generalizing l with
  | zero => intro _; rw [List.length_eq_zero_iff.1 hn]; decide
  | succ n ih =>
    intro h
    rcases List.eq_nil_or_concat l with e | ⟨r, c, e⟩
    · subst e; simp at hn
    · rw [List.concat_eq_append] at e
      subst e
      rw [List.all_append, Bool.and_eq_true] at h
      have hcd : 48 ≤ c.toNat ∧ c.toNat ≤ 57 := by have := h.2; simpa [digB] using this
      have := ih r (by simpa using hn) h.1
      rw [dval_snoc, Nat.pow_succ]
      omega
theorem foldl_mono : ∀ (l : List UInt8) (a b : Nat), a ≤ b → l.foldl dstep a ≤ l.foldl dstep b := by
  intro l
  induction l with
  | nil => intro a b h; exact h
  | cons c l ih => intro a b h; exact ih _ _ (by unfold dstep; omega)
theorem foldl_ge : ∀ (l : List UInt8) (a : Nat), a ≤ l.foldl dstep a := by
  intro l
  induction l with
  | nil => intro a; exact Nat.le_refl _
  | cons c l ih => intro a; exact Nat.le_trans (by unfold dstep; omega) (ih (dstep a c))
theorem parse_digits : ∀ (l : List UInt8) (a : Nat), l.all digB = true → l.foldl dstep a < 1844674407370955161 → Lib.parseUint10 a l = .ok (l.foldl dstep a) := by
  intro l
  induction l with
  | nil => intro a _ _; rfl
  | cons c l ih =>
    intro a h hlt
    rw [List.all_cons, Bool.and_eq_true] at h
    have hcd : 48 ≤ c.toNat ∧ c.toNat ≤ 57 := by have := h.1; simpa [digB] using this
    have h1 : dstep a c < 1844674407370955161 := Nat.lt_of_le_of_lt (foldl_ge l _) hlt
    have h2 : dstep a c = a * 10 + (c.toNat - 48) := by unfold dstep; omega
    unfold Lib.parseUint10
    rw [if_pos hcd, if_neg (by omega), if_neg (by omega), ← h2]
    exact ih _ h.2 hlt
theorem atoi_digits {l : List UInt8} (hne : l ≠ []) (h : l.all digB = true) (hl : l.length ≤ 18) : Lib.atoiAll l = .ok (dval l : Int) := by
  obtain ⟨c, r, rfl⟩ := List.exists_cons_of_ne_nil hne
  have hcd : 48 ≤ c.toNat ∧ c.toNat ≤ 57 := by rw [List.all_cons, Bool.and_eq_true] at h; have := h.1; simpa [digB] using this
  have hlt := dval_lt _ h
  have h18 : (10 : Nat) ^ (c :: r).length ≤ 10 ^ 18 := Nat.pow_le_pow_right (by omega) hl
  have hp := parse_digits (c :: r) 0 h (by change dval (c :: r) < _; omega)
  unfold Lib.atoiAll
  have hs : ¬ (c.toNat = 43 ∨ c.toNat = 45) := by omega
  simp only [if_neg hs]
  unfold Lib.parseMag
  rw [if_neg hne, hp]
  change (if ¬ c.toNat = 45 ∧ 9223372036854775808 ≤ dval (c :: r) then Lib.NumEnd.range else if c.toNat = 45 ∧ 9223372036854775808 < dval (c :: r) then Lib.NumEnd.range else Lib.NumEnd.ok (if c.toNat = 45 then -((dval (c :: r) : Nat) : Int) else ((dval (c :: r) : Nat) : Int))) = _
  rw [if_neg (by omega), if_neg (by omega), if_neg (by omega)]
theorem itoa_nat (n : Nat) : Lib.itoa (n : Int) = Lib.decDigits n := by unfold Lib.itoa; rw [if_neg (by omega)]; simp
theorem num_some {l : List UInt8} {n : Nat} (h : num l = some n) : l = Lib.decDigits n := by
  unfold num at h
  split at h
  · split at h
    · rename_i v _ hv
      injection h with h
      rw [← hv.2, ← h]
      obtain ⟨m, rfl⟩ := Int.eq_ofNat_of_zero_le hv.1
      rw [itoa_nat]; rfl
    · cases h
  · cases h
theorem num_canon {l : List UInt8} (hl : l.length ≤ 18) : num l = if canon l = true then some (dval l) else none := by
  by_cases hc : canon l = true
  · rw [if_pos hc]
    have hc' := (canon_iff l).1 hc
    unfold num
    rw [atoi_digits hc'.1 hc'.2.1 hl]
    simp only
    rw [if_pos ⟨by omega, by rw [itoa_nat]; exact (dec_dval l hc).1⟩]
    rfl
  · rw [if_neg hc]
    cases h : num l with
    | none => rfl
    | some n =>
      exfalso; apply hc
      rw [num_some h]
      exact (dec_canon n).1
theorem digits_le : ∀ (m k : Nat), k + 1 ≤ Lib.nDigits m → 10 ^ k ≤ m ∨ m = 0 := by
  intro m
  induction m using Nat.strongRecOn with
  | ind m ihm =>
    intro k hk
    by_cases hm : m < 10
    · rw [Lib.nDigits_small hm] at hk
      obtain rfl : k = 0 := by omega
      simp; omega
    · rw [Lib.nDigits_big hm] at hk
      cases k with
      | zero => simp; omega
      | succ k =>
        rcases ihm (m / 10) (by omega) k (by omega) with h' | h'
        · left; rw [Nat.pow_succ]; omega
        · omega
theorem dec_len {n k : Nat} (h : n < 10 ^ k) (hk : 0 < k) : (Lib.decDigits n).length ≤ k := by
  rw [Lib.decDigits_length]
  rcases Nat.lt_or_ge k (Lib.nDigits n) with hh | hh
  · rcases digits_le n k (by omega) with h' | h'
    · omega
    · subst h'; rw [Lib.nDigits_small (by omega)] at hh; omega
  · exact hh
theorem num_dec {n : Nat} (h : n < 1000000000000000000) : num (Lib.decDigits n) = some n := by
  rw [num_canon (dec_len (k := 18) (by omega) (by omega)), if_pos (dec_canon n).1, (dec_canon n).2.1]

/-! ### blanks about a text -/
theorem trimR_cons (P : List UInt8) (a : UInt8) (r : List UInt8) : Lib.trimRightS (a :: r) P = if Lib.trimRightS r P = [] then (if P.contains a then [] else [a]) else a :: Lib.trimRightS r P := by
  unfold Lib.trimRightS
  rw [List.reverse_cons, List.dropWhile_append]
  cases h : r.reverse.dropWhile (P.contains ·) with
  | nil =>
    simp only [List.isEmpty_nil, if_true, List.reverse_nil, List.dropWhile_cons, List.dropWhile_nil]
    split <;> simp
  | cons x y => simp
theorem trim_comm (P : List UInt8) (l : List UInt8) : Lib.trimRightS (Lib.trimLeftS l P) P = Lib.trimLeftS (Lib.trimRightS l P) P := by
  induction l with
  | nil => rfl
  | cons a r ih =>
    by_cases ha : P.contains a = true
    · have e1 : Lib.trimLeftS (a :: r) P = Lib.trimLeftS r P := by unfold Lib.trimLeftS; rw [List.dropWhile_cons, if_pos ha]
      rw [e1, ih, trimR_cons]
      by_cases h : Lib.trimRightS r P = []
      · rw [if_pos h, if_pos ha, h]
      · rw [if_neg h]
        show _ = Lib.trimLeftS (a :: Lib.trimRightS r P) P
        unfold Lib.trimLeftS
        rw [List.dropWhile_cons, if_pos ha]
    · have e1 : ∀ t, Lib.trimLeftS (a :: t) P = a :: t := fun t => by unfold Lib.trimLeftS; rw [List.dropWhile_cons, if_neg ha]
      rw [e1, trimR_cons]
      by_cases h : Lib.trimRightS r P = []
      · rw [if_pos h, if_neg ha, e1]
      · rw [if_neg h, e1]
theorem trim_eq (l : List UInt8) : trim l = Lib.trimRightS (Lib.trimLeftS l [32, 9]) [32, 9] := (trim_comm [32, 9] l).symm
end Go.Proofs.YtdbinhbmhkbfeaaGreatDoor.M
