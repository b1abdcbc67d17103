/-
  Mathematics of the law HttpAnswers: the answer at the front of some bytes, as the program looks for it and as the document does.
-/
import Derived.Test.YtdbinhbmhkbfeaaGreatDoorHttpBd
namespace Go.Proofs.YtdbinhbmhkbfeaaGreatDoor.M
open Go

def wordsOf (s : Nat) : List UInt8 :=
  if s = 200 then [79, 75] else if s = 201 then [67, 114, 101, 97, 116, 101, 100] else if s = 400 then [66, 97, 100, 32, 82, 101, 113, 117, 101, 115, 116]
  else if s = 404 then [78, 111, 116, 32, 70, 111, 117, 110, 100] else if s = 405 then [77, 101, 116, 104, 111, 100, 32, 78, 111, 116, 32, 65, 108, 108, 111, 119, 101, 100]
  else if s = 409 then [67, 111, 110, 102, 108, 105, 99, 116] else if s = 410 then [71, 111, 110, 101]
  else if s = 413 then [67, 111, 110, 116, 101, 110, 116, 32, 84, 111, 111, 32, 76, 97, 114, 103, 101]
  else if s = 431 then [82, 101, 113, 117, 101, 115, 116, 32, 72, 101, 97, 100, 101, 114, 32, 70, 105, 101, 108, 100, 115, 32, 84, 111, 111, 32, 76, 97, 114, 103, 101]
  else if s = 503 then [83, 101, 114, 118, 105, 99, 101, 32, 85, 110, 97, 118, 97, 105, 108, 97, 98, 108, 101]
  else if s = 504 then [71, 97, 116, 101, 119, 97, 121, 32, 84, 105, 109, 101, 111, 117, 116] else if s = 507 then [73, 110, 115, 117, 102, 102, 105, 99, 105, 101, 110, 116, 32, 83, 116, 111, 114, 97, 103, 101]
  else [85, 110, 107, 110, 111, 119, 110]
def v9 : List UInt8 := [72, 84, 84, 80, 47, 49, 46, 49, 32]
def ctL : List UInt8 := [13, 10, 67, 111, 110, 116, 101, 110, 116, 45, 84, 121, 112, 101, 58, 32, 97, 112, 112, 108, 105, 99, 97, 116, 105, 111, 110, 47, 106, 115, 111, 110, 13, 10, 67, 111, 110, 116, 101, 110, 116, 45, 76, 101, 110, 103, 116, 104, 58, 32]
def frontB (s : Nat) : List UInt8 := v9 ++ (Lib.decDigits s ++ (32 :: (wordsOf s ++ ctL)))
def closeB : List UInt8 := [67, 111, 110, 110, 101, 99, 116, 105, 111, 110, 58, 32, 99, 108, 111, 115, 101, 13, 10]
/-- what stands behind the digits: the end of the line, the line that says close, the empty line -/
def tailB (last : Bool) : List UInt8 := 13 :: 10 :: ((if last then closeB else []) ++ [13, 10])
/-- the answer behind its front, as the program looks for it: the number, whether it is the last one, what stands behind -/
def ansP (rest : List UInt8) : Option (Nat × List UInt8) :=
  match num (Lib.cut rest [13, 10]).1 with
  | none => none
  | some n =>
    let r2 := if closeB <+: (Lib.cut rest [13, 10]).2.1 then (Lib.cut rest [13, 10]).2.1.drop 19 else (Lib.cut rest [13, 10]).2.1
    if [13, 10] <+: r2 ∧ n ≤ (r2.drop 2).length then some (n, r2.drop 2) else none
def digRun : Nat → List UInt8 → Nat
  | 0, _ => 0
  | _ + 1, [] => 0
  | f + 1, c :: r => if digB c then digRun f r + 1 else 0
/-- as the document does, with the line that says close or without it -/
def ansR (last : Bool) (rest : List UInt8) : Option (Nat × List UInt8) :=
  match len9 (rest.take (digRun 10 rest)) with
  | none => none
  | some n => if tailB last <+: rest.drop (digRun 10 rest) ∧ n ≤ (rest.drop (digRun 10 rest + (tailB last).length)).length then some (n, rest.drop (digRun 10 rest + (tailB last).length)) else none
theorem digRun_app : ∀ (l : List UInt8) (f : Nat) (c : UInt8) (r : List UInt8), l.all digB = true → digB c = false → l.length ≤ f → digRun f (l ++ c :: r) = l.length := by
  intro l
  induction l with
  | nil => intro f c r _ hc _; cases f <;> simp [digRun, hc]
  | cons a l ih =>
    intro f c r h hc hf
    rw [List.all_cons, Bool.and_eq_true] at h
    cases f with
    | zero => simp at hf
    | succ f => simp only [List.cons_append, digRun, h.1, if_true]; rw [ih f c r h.2 hc (by simp at hf; omega)]; rfl
theorem crlf_index (l r : List UInt8) (h : (13 : UInt8) ∉ l) : Lib.index (l ++ 13 :: 10 :: r) [13, 10] = l.length := by
  refine Lib.index_first (by simp) ?_ (fun j hj => ?_)
  · unfold Lib.occAt
    rw [List.drop_left' rfl]
    rfl
  · rw [Bool.eq_false_iff]
    intro hh
    have := Lib.occAt_head (c := 13) (t := [10]) rfl hh
    rw [List.getElem?_append_left hj] at this
    exact h (List.mem_of_getElem? this)
theorem cut_crlf (l r : List UInt8) (h : (13 : UInt8) ∉ l) : Lib.cut (l ++ 13 :: 10 :: r) [13, 10] = (l, r, true) := by
  unfold Lib.cut
  rw [crlf_index l r h, if_pos (by omega)]
  have e : l ++ 13 :: 10 :: r = (l ++ [13, 10]) ++ r := by simp
  rw [Int.toNat_natCast, List.take_left' rfl]
  congr 1
  rw [e]
  congr 1
  exact List.drop_left' (by simp)
theorem cut_none {l : List UInt8} (h : ¬ 0 ≤ Lib.index l [13, 10]) : Lib.cut l [13, 10] = (l, [], false) := by
  unfold Lib.cut; rw [if_neg h]
theorem cut_some {l : List UInt8} (h : 0 ≤ Lib.index l [13, 10]) : l = (Lib.cut l [13, 10]).1 ++ 13 :: 10 :: (Lib.cut l [13, 10]).2.1 := by
  rcases Lib.index_spec l [13, 10] with ⟨h1, _⟩ | ⟨i, h1, h2, h3⟩
  · omega
  · unfold Lib.cut
    rw [if_pos h, h1]
    simp only [Int.toNat_natCast, List.length_cons, List.length_nil]
    have h4 := h3.1
    unfold Lib.occAt at h4
    obtain ⟨t, ht⟩ := List.isPrefixOf_iff_prefix.1 h4
    have e : l.drop (i + 2) = t := by
      rw [← List.drop_drop, ← ht]; rfl
    rw [e]
    have : l = l.take i ++ l.drop i := (List.take_append_drop i l).symm
    rw [← ht] at this
    exact this
theorem digs_no13 {l : List UInt8} (h : l.all digB = true) : (13 : UInt8) ∉ l := fun hm => (digB_no (List.all_eq_true.1 h _ hm)).2.2.2 rfl
theorem close_no : ¬ closeB <+: 13 :: 10 :: ([] : List UInt8) := by decide
/-- of a rest that begins with a number, an end of line and a tail -/
theorem ansP_of {n : Nat} {last : Bool} {b : List UInt8} (hn : n < 1000000000) (hb : n ≤ b.length) : ansP (Lib.decDigits n ++ (tailB last ++ b)) = some (n, b) := by
  have hd := dec_digs n
  have e : Lib.decDigits n ++ (tailB last ++ b) = Lib.decDigits n ++ 13 :: 10 :: (((if last then closeB else []) ++ [13, 10]) ++ b) := by simp [tailB]
  unfold ansP
  rw [e, cut_crlf _ _ (digs_no13 hd.1)]
  simp only [num_dec (show n < 1000000000000000000 by omega)]
  cases last with
  | true =>
    have h1 : closeB <+: (((if true = true then closeB else []) ++ [13, 10]) ++ b) := ⟨[13, 10] ++ b, by simp⟩
    rw [if_pos h1]
    have h2 : (((if true = true then closeB else []) ++ [13, 10]) ++ b).drop 19 = [13, 10] ++ b := by simp [closeB]
    rw [h2, if_pos ⟨⟨b, rfl⟩, hb⟩]
    rfl
  | false =>
    have h1 : ¬ closeB <+: (((if false = true then closeB else []) ++ [13, 10]) ++ b) := by
      rintro ⟨t, ht⟩
      have := congrArg List.head? ht
      simp [closeB] at this
    rw [if_neg h1]
    have h2 : (((if false = true then closeB else []) ++ [13, 10]) ++ b) = [13, 10] ++ b := by simp
    rw [h2, if_pos ⟨⟨b, rfl⟩, hb⟩]
    rfl
theorem ansP_form {rest : List UInt8} {n : Nat} {b : List UInt8} (h : ansP rest = some (n, b)) : ∃ last, rest = Lib.decDigits n ++ (tailB last ++ b) ∧ n ≤ b.length := by
  unfold ansP at h
  cases hm : num (Lib.cut rest [13, 10]).1 with
  | none => rw [hm] at h; cases h
  | some m =>
    rw [hm] at h
    simp only at h
    by_cases hi : 0 ≤ Lib.index rest [13, 10]
    · have hr := cut_some hi
      have hd := num_some hm
      generalize (Lib.cut rest [13, 10]).1 = c1 at *
      generalize (Lib.cut rest [13, 10]).2.1 = c2 at *
      by_cases hc : closeB <+: c2
      · rw [if_pos hc] at h
        split at h
        · rename_i h2
          injection h with h
          injection h with e1 e2
          subst e1
          obtain ⟨t, rfl⟩ := hc
          obtain ⟨⟨u, hu⟩, h3⟩ := h2
          have e3 : (closeB ++ t).drop 19 = t := by simp [closeB]
          rw [e3] at hu h3 e2
          subst hu
          have e4 : ([13, 10] ++ u).drop 2 = u := rfl
          rw [e4] at h3 e2
          subst e2
          exact ⟨true, by rw [hr, hd]; simp [tailB], h3⟩
        · cases h
      · rw [if_neg hc] at h
        split at h
        · rename_i h2
          injection h with h
          injection h with e1 e2
          subst e1
          obtain ⟨⟨u, hu⟩, h3⟩ := h2
          subst hu
          have e4 : ([13, 10] ++ u).drop 2 = u := rfl
          rw [e4] at h3 e2
          subst e2
          exact ⟨false, by rw [hr, hd]; simp [tailB], h3⟩
        · cases h
    · have hc : ¬ closeB <+: ([] : List UInt8) := by decide
      rw [cut_none hi] at h
      simp only [if_neg hc] at h
      rw [if_neg (by rintro ⟨⟨t, ht⟩, _⟩; cases ht)] at h
      cases h
theorem len9_form {l : List UInt8} {n : Nat} (h : len9 l = some n) : l = Lib.decDigits n ∧ n < 1000000000 := by
  unfold len9 at h
  split at h
  · rename_i hl
    have e := num_some h
    refine ⟨e, ?_⟩
    have hd := dec_digs n
    have h1 := dval_lt (Lib.decDigits n) hd.1
    rw [(dec_canon n).2.1, ← e] at h1
    exact Nat.lt_of_lt_of_le h1 (Nat.pow_le_pow_right (by omega) hl)
  · cases h
theorem ansR_form {last : Bool} {rest : List UInt8} {n : Nat} {b : List UInt8} (h : ansR last rest = some (n, b)) : rest = Lib.decDigits n ++ (tailB last ++ b) ∧ n ≤ b.length ∧ n < 1000000000 := by
  unfold ansR at h
  cases hm : len9 (rest.take (digRun 10 rest)) with
  | none => rw [hm] at h; cases h
  | some m =>
    rw [hm] at h
    simp only at h
    split at h
    · rename_i h2
      injection h with h
      injection h with e1 e2
      subst e1
      obtain ⟨⟨t, ht⟩, h3⟩ := h2
      have e3 : rest.drop (digRun 10 rest + (tailB last).length) = t := by
        rw [← List.drop_drop, ← ht, List.drop_left' rfl]
      rw [e3] at h3 e2
      subst e2
      obtain ⟨hl, hn⟩ := len9_form hm
      refine ⟨?_, h3, hn⟩
      rw [ht, ← hl, List.take_append_drop]
    · cases h
theorem ansR_of {n : Nat} {last : Bool} {b : List UInt8} (hn : n < 1000000000) (hb : n ≤ b.length) : ansR last (Lib.decDigits n ++ (tailB last ++ b)) = some (n, b) := by
  have hd := dec_digs n
  have h9 := dec_len (n := n) (k := 9) (by omega) (by omega)
  have hr : digRun 10 (Lib.decDigits n ++ (tailB last ++ b)) = (Lib.decDigits n).length := by
    have e : tailB last ++ b = 13 :: 10 :: (((if last then closeB else []) ++ [13, 10]) ++ b) := by simp [tailB]
    rw [e]
    exact digRun_app _ 10 13 _ hd.1 (by decide) (by omega)
  unfold ansR
  rw [hr, List.take_left' rfl]
  have hl : len9 (Lib.decDigits n) = some n := by unfold len9; rw [if_pos h9, num_dec (by omega)]
  simp only [hl]
  have e1 : (Lib.decDigits n ++ (tailB last ++ b)).drop ((Lib.decDigits n).length) = tailB last ++ b := List.drop_left' rfl
  have e2 : (Lib.decDigits n ++ (tailB last ++ b)).drop ((Lib.decDigits n).length + (tailB last).length) = b := by
    rw [← List.drop_drop, e1]; exact List.drop_left' rfl
  rw [e1, e2, if_pos ⟨⟨b, rfl⟩, hb⟩]
theorem ansR_other {n : Nat} {b : List UInt8} (hn : n < 1000000000) : ansR false (Lib.decDigits n ++ (tailB true ++ b)) = none := by
  have hd := dec_digs n
  have h9 := dec_len (n := n) (k := 9) (by omega) (by omega)
  have hr : digRun 10 (Lib.decDigits n ++ (tailB true ++ b)) = (Lib.decDigits n).length := by
    have e : tailB true ++ b = 13 :: 10 :: ((closeB ++ [13, 10]) ++ b) := by simp [tailB]
    rw [e]
    exact digRun_app _ 10 13 _ hd.1 (by decide) (by omega)
  unfold ansR
  rw [hr, List.take_left' rfl]
  have hl : len9 (Lib.decDigits n) = some n := by unfold len9; rw [if_pos h9, num_dec (by omega)]
  simp only [hl]
  have e1 : (Lib.decDigits n ++ (tailB true ++ b)).drop ((Lib.decDigits n).length) = tailB true ++ b := List.drop_left' rfl
  rw [e1, if_neg]
  rintro ⟨⟨t, ht⟩, _⟩
  have := congrArg (fun l => l[2]?) ht
  simp [tailB, closeB] at this
/-- the program's way and the document's come to the same, where the bytes are not too many -/
theorem ans_same (rest : List UInt8) (hl : rest.length ≤ 100000) : ansP rest = (match ansR false rest with | some r => some r | none => ansR true rest) := by
  cases hp : ansP rest with
  | some r =>
    obtain ⟨n, b⟩ := r
    obtain ⟨last, rfl, hb⟩ := ansP_form hp
    have hbl : n < 1000000000 := by
      rw [List.length_append, List.length_append] at hl; omega
    cases last with
    | false => rw [ansR_of hbl hb]
    | true => rw [ansR_other hbl, ansR_of hbl hb]
  | none =>
    cases hf : ansR false rest with
    | some r =>
      obtain ⟨n, b⟩ := r
      obtain ⟨rfl, hb, hn⟩ := ansR_form hf
      rw [ansP_of hn hb] at hp
      cases hp
    | none =>
      cases ht : ansR true rest with
      | some r =>
        obtain ⟨n, b⟩ := r
        obtain ⟨rfl, hb, hn⟩ := ansR_form ht
        rw [ansP_of hn hb] at hp
        cases hp
      | none => rfl
end Go.Proofs.YtdbinhbmhkbfeaaGreatDoor.M
