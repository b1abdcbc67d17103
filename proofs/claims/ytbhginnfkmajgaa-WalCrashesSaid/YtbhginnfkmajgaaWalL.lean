/-
  What the disk's states come to in the law WalCuts: mathematics alone.
-/
import Derived.Test.YtbhginnfkmajgaaWalK
namespace Go.Proofs.Ytbhginnfkmajgaa
open Go.RowKit Mem FM
set_option linter.unusedVariables false

def nmLg : ByteArray := ⟨#[108, 111, 103]⟩
def nmLn : ByteArray := ⟨#[108, 111, 103, 46, 110, 101, 119]⟩
theorem nmN_lg : nmN nmLg = nmLn := by decide +kernel
def fg (l : List UInt8) (k : Nat) : File Unit := ⟨[108, 111, 103], l, k, ()⟩
def fn (l : List UInt8) (k : Nat) : File Unit := ⟨[108, 111, 103, 46, 110, 101, 119], l, k, ()⟩
def cu (fs : List (File Unit)) (o : Nat) : St := ⟨65536, fs, o, 0, false⟩
theorem rG : ready1 nmLg false = 0 := by decide
theorem rN : ready1 nmLn false = 0 := by decide
theorem rNG : ready2 nmLn nmLg false = 0 := by decide
section
variable (p q : List UInt8) (k j o : Nat)
theorem ca1 (h : p.length ≤ 5000) : appended (St.new 65536) nmLg p = (0, cu [fg p 0] 1) := by
  unfold appended
  rw [show (St.new 65536).off = false from rfl, if_pos rG]
  unfold wrote
  rw [if_neg (by show ¬ (65536 - 0 < p.length); omega)]
  rfl
theorem ca2 : synced (cu [fg p k] 1) nmLg = (0, cu [fg p p.length] 2) := by
  unfold synced
  rw [show (cu [fg p k] 1).off = false from rfl, if_pos rG]
  rfl
theorem ca3 (h : p.length + q.length ≤ 5000) : appended (cu [fg p k] 2) nmLn q = (0, cu [fg p k, fn q 0] 3) := by
  unfold appended
  rw [show (cu [fg p k] 2).off = false from rfl, if_pos rN]
  unfold wrote
  rw [if_neg (by show ¬ (65536 - (p.length + 0) < q.length); omega)]
  rfl
theorem cd1 : removed (cu [fg p k, fn q j] o) nmLn = (0, cu [fg p k] (o + 1)) := by
  unfold removed
  rw [show (cu [fg p k, fn q j] o).off = false from rfl, if_pos rN]
  rfl
theorem cd2 : removed (cu [fg p k] o) nmLn = (8, cu [fg p k] o) := by
  unfold removed
  rw [show (cu [fg p k] o).off = false from rfl, if_pos rN]
  rfl
theorem cdr1 : droppedR (cu [fg p k, fn q j] o) nmLg = (0, cu [fg p k] (o + 1)) := by
  unfold droppedR
  rw [nmN_lg, cd1, if_neg (by simp)]
theorem cdr2 : droppedR (cu [fg p k] o) nmLg = (0, cu [fg p k] o) := by
  unfold droppedR
  rw [nmN_lg, cd2, if_pos rfl]
theorem cp1 (h : p.length + q.length ≤ 20000) : putR (cu [fg p k] o) nmLn q = (0, cu [fg p k, fn q 0] (o + 1)) := by
  unfold putR
  rw [show (cu [fg p k] o).off = false from rfl, if_pos rN]
  unfold putNew
  have : find nmLn.data.toList (cu [fg p k] o).files = none := rfl
  simp only [this]
  unfold wrote
  rw [if_neg (by show ¬ (65536 - (p.length + 0) < q.length); omega)]
  rfl
theorem cs1 : synced (cu [fg p k, fn q j] o) nmLn = (0, cu [fg p k, fn q q.length] (o + 1)) := by
  unfold synced
  rw [show (cu [fg p k, fn q j] o).off = false from rfl, if_pos rN]
  rfl
theorem cr1 : renamed (cu [fg p k, fn q q.length] o) nmLn nmLg = (0, cu [fg q q.length] (o + 1)) := by
  unfold renamed
  rw [show (cu [fg p k, fn q q.length] o).off = false from rfl, if_pos rNG]
  have : find nmLn.data.toList (cu [fg p k, fn q q.length] o).files = some (fn q q.length) := rfl
  simp only [this]
  rw [if_neg (by show ¬ q.length < q.length; omega)]
  rfl
theorem crep (h : p.length + q.length ≤ 20000) : replacedR (cu [fg p k] o) nmLg q = (0, cu [fg q q.length] (o + 3)) := by
  unfold replacedR
  rw [cdr2, if_neg (by simp)]
  unfold repl2
  rw [nmN_lg, cp1 p q k o h, if_neg (by simp)]
  unfold repl3
  rw [nmN_lg, cs1, if_neg (by simp), cr1]
theorem cread (h : True) : readR (cu [fg p k, fn q j] o) nmLg = (p, 0) := by
  unfold readR
  rw [show (cu [fg p k, fn q j] o).off = false from rfl, if_pos rG]
  rfl
theorem cread1 : readR (cu [fg p k] o) nmLg = (p, 0) := by
  unfold readR
  rw [show (cu [fg p k] o).off = false from rfl, if_pos rG]
  rfl
/-- Open cuts off what stands behind the records -/
theorem copen (h : p.length ≤ 5000) : ∃ o', o' ≤ o + 4 ∧ openedR (cu [fg p p.length, fn q j] o) nmLg = (0, cu [fg (p.take (M.scan p).2) (M.scan p).2] o') := by
  unfold openedR
  rw [cread p q p.length j o trivial, cdr1]
  have hle := scan_le p
  by_cases hlt : (M.scan p).2 < p.length
  · refine ⟨o + 1 + 3, by omega, ?_⟩
    rw [if_neg (by simp), if_neg (by simp), if_pos hlt, crep p (p.take (M.scan p).2) p.length (o + 1) (by simp; omega)]
    rw [List.length_take, Nat.min_eq_left hle]
  · refine ⟨o + 1, by omega, ?_⟩
    have he : (M.scan p).2 = p.length := by omega
    rw [if_neg (by simp), if_neg (by simp), if_neg hlt, he, List.take_length]
end
end Go.Proofs.Ytbhginnfkmajgaa
