/-
  Mathematics of the laws HttpBodies and HttpPieces: what is read of a request whose length is told.
-/
import Derived.Test.YtdbinhbmhkbfeaaGreatDoorHttpMb
namespace Go.Proofs.YtdbinhbmhkbfeaaGreatDoor.M
open Go

def rq0 : List UInt8 := [80, 79, 83, 84, 32, 47, 100, 111, 99, 115, 32, 72, 84, 84, 80, 47, 49, 46, 49]
def rq1 (c : UInt8) : List UInt8 := [72, 111, 115, 116, 58, 32] ++ [c]
def rqC : List UInt8 := [67, 111, 110, 116, 101, 110, 116, 45, 76, 101, 110, 103, 116, 104, 58, 32]
def rq2 (k : Nat) : List UInt8 := rqC ++ Lib.decDigits k
def rq3 : List UInt8 := [67, 111, 110, 110, 101, 99, 116, 105, 111, 110, 58, 32, 67, 108, 111, 115, 101]
def rqEnd (last : Bool) : List UInt8 := (if last then rq3 ++ [13, 10] else []) ++ [13, 10]
def rqHead (c : UInt8) (k : Nat) (last : Bool) : List UInt8 := rq0 ++ 13 :: 10 :: (rq1 c ++ 13 :: 10 :: (rq2 k ++ 13 :: 10 :: rqEnd last))
theorem rqHead_len (c : UInt8) (k : Nat) (last : Bool) : (rqHead c k last).length = 50 + (Lib.decDigits k).length + (if last then 19 else 0) := by
  cases last <;> simp [rqHead, rq0, rq1, rq2, rqC, rqEnd, rq3] <;> omega
theorem dec_digs (k : Nat) : (Lib.decDigits k).all digB = true ∧ Lib.decDigits k ≠ [] := by
  have := (canon_iff _).1 (dec_canon k).1
  exact ⟨this.2.1, this.1⟩
theorem digB_no {c : UInt8} (h : digB c = true) : c ≠ 10 ∧ c ≠ 32 ∧ c ≠ 9 ∧ c ≠ 13 := by
  unfold digB at h
  rw [decide_eq_true_eq] at h
  refine ⟨?_, ?_, ?_, ?_⟩ <;> (rintro rfl; revert h; decide)
theorem trimR_digs : ∀ {l : List UInt8}, l.all digB = true → Lib.trimRightS l [32, 9] = l := by
  intro l
  induction l with
  | nil => intro _; rfl
  | cons a r ih =>
    intro h
    rw [List.all_cons, Bool.and_eq_true] at h
    rw [trimR_cons, ih h.2]
    have := digB_no h.1
    by_cases e : r = []
    · rw [if_pos e, if_neg (by simp; exact ⟨this.2.1, this.2.2.1⟩), e]
    · rw [if_neg e]
theorem trim_digs {l : List UInt8} (h : l.all digB = true) (hne : l ≠ []) : trim (32 :: l) = l := by
  unfold trim Lib.trimS
  have h1 : Lib.trimRightS (32 :: l) [32, 9] = 32 :: l := by rw [trimR_cons, trimR_digs h, if_neg hne]
  rw [h1]
  unfold Lib.trimLeftS
  rw [List.dropWhile_cons, if_pos (by decide)]
  cases l with
  | nil => exact absurd rfl hne
  | cons a r =>
    rw [List.all_cons, Bool.and_eq_true] at h
    have := digB_no h.1
    rw [List.dropWhile_cons, if_neg (by simp; exact ⟨this.2.1, this.2.2.1⟩)]
theorem rq2_no (k : Nat) : (10 : UInt8) ∉ rq2 k := by
  unfold rq2
  rw [List.mem_append]
  rintro (h | h)
  · revert h; decide
  · have := List.all_eq_true.1 (dec_digs k).1 _ h
    exact (digB_no this).1 rfl
theorem rq2_step (k : Nat) (hk : k < 100000000) (h : Hd) : lineStep h (rq2 k) = some { h with lengths := h.lengths + 1, length := k } := by
  have hf : fi 58 (rq2 k) = 14 := by simp [rq2, rqC, fi]
  have hd := dec_digs k
  unfold lineStep
  have hlen : (rq2 k).length = 16 + (Lib.decDigits k).length := by simp [rq2, rqC]; omega
  rw [hf, if_neg (by rw [hlen]; omega)]
  have ht : (rq2 k).take 14 = [67, 111, 110, 116, 101, 110, 116, 45, 76, 101, 110, 103, 116, 104] := rfl
  have hdr : (rq2 k).drop (14 + 1) = 32 :: Lib.decDigits k := rfl
  rw [ht, hdr, trim_digs hd.1 hd.2, if_pos]
  · unfold field
    rw [if_neg (by decide), if_pos (by decide)]
    have h9 : len9 (Lib.decDigits k) = some k := by
      unfold len9
      rw [if_pos (Nat.le_trans (dec_len (k := 8) (by omega) (by omega)) (by omega)), num_dec (by omega)]
    rw [h9]
  · refine ⟨by decide, ?_⟩
    unfold isValue
    rw [List.all_eq_true]
    intro c hc
    have := List.all_eq_true.1 hd.1 _ hc
    unfold digB at this
    rw [decide_eq_true_eq] at this
    unfold valB
    simp only [Bool.not_eq_true', Bool.or_eq_false_iff, decide_eq_false_iff_not]
    omega
theorem rq_drop1 (c : UInt8) (k : Nat) (last : Bool) (r : List UInt8) : (rqHead c k last ++ r).drop 21 = rq1 c ++ 13 :: 10 :: (rq2 k ++ 13 :: 10 :: (rqEnd last ++ r)) := by
  simp [rqHead, rq0]
theorem rq_drop2 (c : UInt8) (k : Nat) (last : Bool) (r : List UInt8) : (rqHead c k last ++ r).drop 30 = rq2 k ++ 13 :: 10 :: (rqEnd last ++ r) := by
  simp [rqHead, rq0, rq1]
theorem rq_drop3 (c : UInt8) (k : Nat) (last : Bool) (r : List UInt8) : (rqHead c k last ++ r).drop (48 + (Lib.decDigits k).length) = rqEnd last ++ r := by
  have h1 : (rqHead c k last ++ r).drop (30 + (18 + (Lib.decDigits k).length)) = ((rqHead c k last ++ r).drop 30).drop (18 + (Lib.decDigits k).length) := by rw [List.drop_drop]
  rw [show 48 + (Lib.decDigits k).length = 30 + (18 + (Lib.decDigits k).length) by omega, h1, rq_drop2, show rq2 k ++ 13 :: 10 :: (rqEnd last ++ r) = (rq2 k ++ [13, 10]) ++ (rqEnd last ++ r) by simp]
  exact List.drop_left' (by simp [rq2, rqC]; omega)
theorem rq_heads (c : UInt8) (hc : c ≠ 10) (k : Nat) (hk : k < 100000000) (last : Bool) (r : List UInt8) :
    heads (rqHead c k last ++ r) = .yes ([rq0, rq1 c, rq2 k] ++ (if last then [rq3] else [])) (rqHead c k last).length := by
  have hdl := dec_len (n := k) (k := 8) (by omega) (by omega)
  unfold heads
  rw [headF_line (l := rq0) (r := rq1 c ++ 13 :: 10 :: (rq2 k ++ 13 :: 10 :: (rqEnd last ++ r))) (by simp [rqHead]) (by simp) (by decide) (by decide) (.inr rfl)]
  rw [show 0 + rq0.length + 2 = 21 from rfl, headF_line (l := rq1 c) (rq_drop1 c k last r) (by simp) (by simp [rq1]; exact fun e => hc e.symm) (by simp [rq1]) (.inl (by simp [rq1]))]
  rw [show 21 + (rq1 c).length + 2 = 30 by simp [rq1], headF_line (l := rq2 k) (rq_drop2 c k last r) (by simp) (rq2_no k) (by simp [rq2, rqC]; omega) (.inl (by simp [rq2, rqC]))]
  rw [show 30 + (rq2 k).length + 2 = 48 + (Lib.decDigits k).length by simp [rq2, rqC]; omega, rqHead_len]
  cases last with
  | false =>
    rw [headF_end (r := r) (by rw [rq_drop3]; rfl) (by simp) (by omega) (by simp)]
    simp
    omega
  | true =>
    rw [headF_line (l := rq3) (r := [13, 10] ++ r) (by rw [rq_drop3]; simp [rqEnd]) (by simp) (by decide) (by simp [rq3]; omega) (.inl (by decide))]
    have h4 : (rqHead c k true ++ r).drop (48 + (Lib.decDigits k).length + rq3.length + 2) = 13 :: 10 :: r := by
      rw [Nat.add_assoc, ← List.drop_drop, rq_drop3]
      rfl
    rw [headF_end (r := r) h4 (by simp) (by simp [rq3]; omega) (by simp)]
    simp [rq3]
    omega
theorem rq1_step (c : UInt8) (hv : valB c = true) (h : Hd) : lineStep h (rq1 c) = some { h with hosts := h.hosts + 1 } := by
  unfold lineStep
  have hf : fi 58 (rq1 c) = 4 := rfl
  rw [hf, if_neg (by simp [rq1])]
  have ht : (rq1 c).take 4 = [72, 111, 115, 116] := rfl
  have hdr : (rq1 c).drop (4 + 1) = [32, c] := rfl
  rw [ht, hdr, if_pos]
  · unfold field
    rw [if_pos (by decide)]
  · refine ⟨by decide, ?_⟩
    unfold isValue
    rw [List.all_eq_true]
    intro d hd
    unfold trim Lib.trimS Lib.trimLeftS Lib.trimRightS at hd
    have h1 := (List.dropWhile_sublist _).mem hd
    rw [List.mem_reverse] at h1
    have h2 := (List.dropWhile_sublist _).mem h1
    rw [List.mem_reverse] at h2
    rcases List.mem_cons.1 h2 with rfl | h3
    · decide
    · rw [List.mem_singleton.1 h3]; exact hv
theorem rq3_step (h : Hd) : lineStep h rq3 = some { h with close := true } := by
  have e : lineStep h rq3 = field h conW [67, 108, 111, 115, 101] := by
    unfold lineStep
    have hf : fi 58 rq3 = 10 := rfl
    rw [hf, if_neg (by decide)]
    have hx : trim (rq3.drop (10 + 1)) = [67, 108, 111, 115, 101] := by decide +kernel
    rw [hx, if_pos ⟨by decide, by decide⟩]
    rfl
  rw [e]
  unfold field
  rw [if_neg (by decide), if_neg (by decide), if_neg (by decide), if_pos rfl, show decide (List.map lowr [67, 108, 111, 115, 101] = closeW) = true from by decide, Bool.or_true]
theorem rq_read (c : UInt8) (hc : c ≠ 10) (hv : valB c = true) (k : Nat) (hk : k < 100000000) (last : Bool) (r : List UInt8) :
    read (rqHead c k last ++ r) = if 8192 < k then (noRq, 0, 413) else if r.length < k then (noRq, 0, 0) else (⟨[80, 79, 83, 84], [47, 100, 111, 99, 115], r.take k, last⟩, (rqHead c k last).length + k, 0) := by
  unfold read
  rw [rq_heads c hc k hk last r]
  have h0 : first rq0 = some ([80, 79, 83, 84], [47, 100, 111, 99, 115]) := by decide +kernel
  have h1 : linesF ⟨false, 0, 0, 0⟩ ([rq1 c, rq2 k] ++ (if last then [rq3] else [])) = some ⟨last, 1, 1, k⟩ := by
    cases last with
    | false =>
      simp only [Bool.false_eq_true, if_false, List.append_nil]
      unfold linesF; rw [rq1_step c hv]; simp only
      unfold linesF; rw [rq2_step k hk]; rfl
    | true =>
      simp only [if_true, List.cons_append, List.nil_append]
      unfold linesF; rw [rq1_step c hv]; simp only
      unfold linesF; rw [rq2_step k hk]; simp only
      unfold linesF; rw [rq3_step]; rfl
  show readLines _ _ (rq0 :: ([rq1 c, rq2 k] ++ (if last then [rq3] else []))) = _
  unfold readLines
  simp only [h0, h1]
  unfold judge
  rw [if_neg (by simp)]
  by_cases hl : 8192 < k
  · rw [if_pos hl, if_pos hl]
  · rw [if_neg hl, if_neg hl]
    by_cases hr : r.length < k
    · rw [if_pos hr, if_pos (by rw [List.length_append]; simp only; omega)]
    · rw [if_neg hr, if_neg (by rw [List.length_append]; simp only; omega)]
      simp only
      rw [List.drop_left' rfl]
end Go.Proofs.YtdbinhbmhkbfeaaGreatDoor.M
