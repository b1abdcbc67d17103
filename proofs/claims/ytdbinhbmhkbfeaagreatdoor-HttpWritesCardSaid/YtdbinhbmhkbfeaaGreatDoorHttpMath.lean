/-
  Requests and answers as plain mathematics. Own work; no program in it.
-/
import Derived.Lib.IndexMore
import Derived.Lib.Split
import Derived.Lib.SlTrimSet
import Derived.Lib.AtoiAll
import Derived.Lib.ItoaNum
import Derived.Laws.RangeAny
namespace Go.Proofs.YtdbinhbmhkbfeaaGreatDoor.M
open Go

/-- the first place of a byte; behind the end, if there is none -/
def fi (c : UInt8) : List UInt8 → Nat
  | [] => 0
  | b :: l => if b = c then 0 else fi c l + 1
theorem fi_le (c : UInt8) (l : List UInt8) : fi c l ≤ l.length := by
  induction l with
  | nil => exact Nat.le_refl _
  | cons b l ih => unfold fi; split <;> simp <;> omega
theorem fi_at {c : UInt8} {l : List UInt8} (h : fi c l < l.length) : l[fi c l]? = some c := by
  induction l with
  | nil => simp [fi] at h
  | cons b l ih =>
    unfold fi at h ⊢
    split at h
    · rename_i e; rw [if_pos e]; simp [e]
    · rename_i e; rw [if_neg e]; simpa using ih (by simpa using h)
theorem fi_no {c : UInt8} {l : List UInt8} {j : Nat} (h : j < fi c l) : l[j]? ≠ some c := by
  induction l generalizing j with
  | nil => simp [fi] at h
  | cons b l ih =>
    unfold fi at h
    split at h
    · omega
    · rename_i e
      cases j with
      | zero => simpa using e
      | succ j => simpa using ih (by omega)
theorem fi_none {c : UInt8} {l : List UInt8} (h : c ∉ l) : fi c l = l.length := by
  induction l with
  | nil => rfl
  | cons b l ih =>
    simp only [List.mem_cons, not_or] at h
    unfold fi
    rw [if_neg (fun e => h.1 e.symm), ih h.2]
    rfl
theorem fi_app {c : UInt8} {l r : List UInt8} (h : c ∉ l) : fi c (l ++ c :: r) = l.length := by
  induction l with
  | nil => simp [fi]
  | cons b l ih =>
    simp only [List.mem_cons, not_or] at h
    show fi c (b :: (l ++ c :: r)) = _
    unfold fi
    rw [if_neg (fun e => h.1 e.symm), ih h.2]
    rfl
theorem fi_mem {c : UInt8} {l : List UInt8} (h : c ∈ l) : fi c l < l.length := by
  induction l with
  | nil => cases h
  | cons b l ih =>
    unfold fi
    split
    · simp
    · rename_i e
      simp only [List.mem_cons] at h
      rcases h with h | h
      · exact absurd h.symm e
      · have := ih h; simp; omega
theorem indexByte_fi (l : List UInt8) (c : UInt8) : Lib.indexByte l c = if fi c l < l.length then ((fi c l : Nat) : Int) else -1 := by
  induction l with
  | nil => simp [Lib.indexByte, fi]
  | cons b l ih =>
    unfold Lib.indexByte fi
    by_cases e : b = c
    · simp [e]
    · have e' : (b == c) = false := by simpa using e
      simp only [e', e, if_false, Bool.false_eq_true, ih, List.length_cons]
      have := fi_le c l
      by_cases h : fi c l < l.length
      · have hne : (((fi c l : Nat) : Int) == -1) = false := by
          rw [beq_eq_false_iff_ne]; omega
        simp only [h, if_true, hne, Bool.false_eq_true, if_false]
        rw [if_pos (by omega)]
        omega
      · have hn : ¬ (fi c l + 1 < l.length + 1) := by omega
        simp only [h, hn, if_false]
        rfl
theorem index_fi (l : List UInt8) (c : UInt8) : Lib.index l [c] = if fi c l < l.length then ((fi c l : Nat) : Int) else -1 := by rw [Lib.index_one, indexByte_fi]
theorem cut_fi (l : List UInt8) (c : UInt8) : Lib.cut l [c] = if fi c l < l.length then (l.take (fi c l), l.drop (fi c l + 1), true) else (l, [], false) := by
  unfold Lib.cut
  rw [index_fi]
  by_cases h : fi c l < l.length
  · rw [if_pos h, if_pos h, if_pos (by omega)]; simp
  · rw [if_neg h, if_neg h, if_neg (by omega)]

/-! ### the lines -/
inductive Heads where
  | no (state : Nat)
  | yes (lines : List (List UInt8)) (behind : Nat)
def headF : Nat → List (List UInt8) → Nat → List UInt8 → Heads
  | 0, _, _, _ => .no 431
  | f + 1, lines, k, p =>
    if 32 < lines.length then .no 431
    else if (p.drop k).length ≤ fi 10 (p.drop k) then (if 2048 < p.length then .no 431 else .no 0)
    else if 2048 ≤ k + fi 10 (p.drop k) then .no 431
    else if fi 10 (p.drop k) = 0 ∨ (p.drop k)[fi 10 (p.drop k) - 1]? ≠ some 13 then .no 400
    else if fi 10 (p.drop k) = 1 ∧ lines ≠ [] then .yes lines (k + fi 10 (p.drop k) + 1)
    else headF f (lines ++ [(p.drop k).take (fi 10 (p.drop k) - 1)]) (k + fi 10 (p.drop k) + 1) p
def heads (p : List UInt8) : Heads := headF 34 [] 0 p

/-! ### one line -/
def nameB (c : UInt8) : Bool := decide (97 ≤ c.toNat ∧ c.toNat ≤ 122) || decide (65 ≤ c.toNat ∧ c.toNat ≤ 90) || decide (48 ≤ c.toNat ∧ c.toNat ≤ 57) || decide (c.toNat = 45) || decide (c.toNat = 95)
def pathB (c : UInt8) : Bool := decide (33 ≤ c.toNat ∧ c.toNat ≤ 126)
def valB (c : UInt8) : Bool := !(decide (c.toNat < 32 ∧ c.toNat ≠ 9) || decide (c.toNat = 127))
def isName (l : List UInt8) : Bool := l.all nameB && decide (l ≠ [])
def isPath (l : List UInt8) : Bool := l.all pathB && decide (l.head? = some 47)
def isValue (l : List UInt8) : Bool := l.all valB
def lowr (c : UInt8) : UInt8 := if 65 ≤ c.toNat ∧ c.toNat ≤ 90 then c + 32 else c
def trim (l : List UInt8) : List UInt8 := Lib.trimS l [32, 9]
def httpV : List UInt8 := [72, 84, 84, 80, 47, 49, 46, 49]
def hostW : List UInt8 := [104, 111, 115, 116]
def lenW : List UInt8 := [99, 111, 110, 116, 101, 110, 116, 45, 108, 101, 110, 103, 116, 104]
def encW : List UInt8 := [116, 114, 97, 110, 115, 102, 101, 114, 45, 101, 110, 99, 111, 100, 105, 110, 103]
def conW : List UInt8 := [99, 111, 110, 110, 101, 99, 116, 105, 111, 110]
def closeW : List UInt8 := [99, 108, 111, 115, 101]
/-- a number from 0 on, in the one form in which it is written -/
def num (l : List UInt8) : Option Nat := match Lib.atoiAll l with
  | .ok v => if 0 ≤ v ∧ Lib.itoa v = l then some v.toNat else none
  | _ => none
def len9 (l : List UInt8) : Option Nat := if l.length ≤ 9 then num l else none
def first (l : List UInt8) : Option (List UInt8 × List UInt8) :=
  if l.length ≤ fi 32 l then none
  else if (l.drop (fi 32 l + 1)).length ≤ fi 32 (l.drop (fi 32 l + 1)) then none
  else if isName (l.take (fi 32 l)) = true ∧ isPath ((l.drop (fi 32 l + 1)).take (fi 32 (l.drop (fi 32 l + 1)))) = true ∧ (l.drop (fi 32 l + 1)).drop (fi 32 (l.drop (fi 32 l + 1)) + 1) = httpV
    then some (l.take (fi 32 l), (l.drop (fi 32 l + 1)).take (fi 32 (l.drop (fi 32 l + 1)))) else none
structure Hd where
  close : Bool
  hosts : Nat
  lengths : Nat
  length : Nat
deriving DecidableEq
def field (h : Hd) (n v : List UInt8) : Option Hd :=
  if n = hostW then some { h with hosts := h.hosts + 1 }
  else if n = lenW then (match len9 v with
    | some x => some { h with lengths := h.lengths + 1, length := x }
    | none => none)
  else if n = encW then none
  else if n = conW then some { h with close := h.close || decide (v.map lowr = closeW) }
  else some h
def lineStep (h : Hd) (l : List UInt8) : Option Hd :=
  if l.length ≤ fi 58 l then none
  else if isName (l.take (fi 58 l)) = true ∧ isValue (trim (l.drop (fi 58 l + 1))) = true then field h ((l.take (fi 58 l)).map lowr) (trim (l.drop (fi 58 l + 1)))
  else none
def linesF : Hd → List (List UInt8) → Option Hd
  | h, [] => some h
  | h, l :: r => match lineStep h l with
    | none => none
    | some h' => linesF h' r
structure Rq where
  method : List UInt8
  path : List UInt8
  body : List UInt8
  close : Bool
deriving DecidableEq
def noRq : Rq := ⟨[], [], [], false⟩
def judge (p : List UInt8) (k : Nat) (m pa : List UInt8) (h : Hd) : Rq × Nat × Nat :=
  if h.hosts ≠ 1 ∨ 1 < h.lengths then (noRq, 0, 400)
  else if 8192 < h.length then (noRq, 0, 413)
  else if p.length < k + h.length then (noRq, 0, 0)
  else (⟨m, pa, (p.drop k).take h.length, h.close⟩, k + h.length, 0)
def readLines (p : List UInt8) (k : Nat) : List (List UInt8) → Rq × Nat × Nat
  | [] => (noRq, 0, 0)
  | l0 :: ls => match first l0 with
    | none => (noRq, 0, 400)
    | some (m, pa) => match linesF ⟨false, 0, 0, 0⟩ ls with
      | none => (noRq, 0, 400)
      | some h => judge p k m pa h
def read (p : List UInt8) : Rq × Nat × Nat := match heads p with
  | .no s => (noRq, 0, s)
  | .yes lines k => readLines p k lines

/-! ### runes -/
theorem decode_tail (s : ByteArray) (pos : Nat) (h : pos < s.size) (ha : 128 ≤ (s[pos]'h).toNat) : ∀ j, j < (Utf8.decode s pos).2 → pos + j < s.size ∧ 128 ≤ (s.get! (pos + j)).toNat := by
  have hn : ¬ (s[pos]'h).toNat < 128 := by omega
  have h0 : pos + 0 < s.size ∧ 128 ≤ (s.get! (pos + 0)).toNat := ⟨h, by rw [get_at s pos h]; exact ha⟩
  have hb : ∀ k, (s.get! (pos + k)).toNat < 256 := fun k => (s.get! (pos + k)).toNat_lt
  simp only [Utf8.decode, get_at s pos h, hn, if_false]
  intro j
  have one : j < 1 → pos + j < s.size ∧ 128 ≤ (s.get! (pos + j)).toNat := fun hj => by
    obtain rfl : j = 0 := by omega
    exact h0
  split
  · rename_i hc
    simp only [Bool.and_eq_true, decide_eq_true_eq, beq_iff_eq] at hc
    split
    · intro hj
      have : j = 0 ∨ j = 1 := by simp at hj; omega
      rcases this with rfl | rfl
      · exact h0
      · exact ⟨hc.2.1, by have := hb 1; omega⟩
    · exact fun hj => one (by simp only at hj; omega)
  · split
    · rename_i hc
      simp only [Bool.and_eq_true, decide_eq_true_eq, beq_iff_eq] at hc
      split
      · intro hj
        have : j = 0 ∨ j = 1 ∨ j = 2 := by simp at hj; omega
        rcases this with rfl | rfl | rfl
        · exact h0
        · exact ⟨hc.1.2.1, by have := hb 1; omega⟩
        · exact ⟨hc.2.1, by have := hb 2; omega⟩
      · exact fun hj => one (by simp only at hj; omega)
    · split
      · rename_i hc
        simp only [Bool.and_eq_true, decide_eq_true_eq, beq_iff_eq] at hc
        split
        · intro hj
          have : j = 0 ∨ j = 1 ∨ j = 2 ∨ j = 3 := by simp at hj; omega
          rcases this with rfl | rfl | rfl | rfl
          · exact h0
          · exact ⟨hc.1.1.2.1, by have := hb 1; omega⟩
          · exact ⟨hc.1.2.1, by have := hb 2; omega⟩
          · exact ⟨hc.2.1, by have := hb 3; omega⟩
        · exact fun hj => one (by simp only at hj; omega)
      · exact fun hj => one (by simp only at hj; omega)
end Go.Proofs.YtdbinhbmhkbfeaaGreatDoor.M
