/-
  What the disk's states come to in the law DiskLasts: mathematics alone.
-/
import Derived.Test.YteelnffdkckinaaDiskR
namespace Go.Proofs.Yteelnffdkckinaa
open Go.RowKit Mem FM

def nmB : ByteArray := ⟨#[98]⟩
def nmC : ByteArray := ⟨#[99]⟩
def fl (n : UInt8) (l : List UInt8) (k : Nat) : File Unit := ⟨[n], l, k, ()⟩
theorem rA : ready1 nmA false = 0 := by decide
theorem rB : ready1 nmB false = 0 := by decide
theorem rC : ready1 nmC false = 0 := by decide
theorem rA1 : ready1 nmA true = 10 := by decide
theorem rB1 : ready1 nmB true = 10 := by decide
theorem rBC : ready2 nmB nmC false = 0 := by decide
theorem rBC1 : ready2 nmB nmC true = 10 := by decide

def ls0 (f1 : List UInt8) : St := ⟨10000, [fl 97 f1 f1.length], 2, 0, false⟩
def ls (f1 : List UInt8) (k : Nat) : St := ⟨10000, [fl 97 f1 f1.length], 2, k, false⟩
section
variable (f1 f2 f3 : List UInt8) (k o : Nat) (h : f1.length + f2.length + f3.length ≤ 3000)
include h
theorem la1 : appended (St.new 10000) nmA f1 = (0, ⟨10000, [fl 97 f1 0], 1, 0, false⟩) := by
  unfold appended
  rw [show (St.new 10000).off = false from rfl, if_pos rA]
  unfold wrote
  rw [if_neg (by show ¬ (10000 - 0 < f1.length); omega)]
  rfl
omit h in
theorem la2 : synced ⟨10000, [fl 97 f1 0], 1, 0, false⟩ nmA = (0, ls0 f1) := by
  unfold synced
  rw [if_pos rA]
  rfl
theorem la4 : appended (ls f1 k) nmA f2 = (opErr k, ⟨10000, [fl 97 (f1 ++ f2) f1.length], 3, k - 1, k == 1⟩) := by
  unfold appended
  rw [show (ls f1 k).off = false from rfl, if_pos rA]
  unfold wrote
  rw [if_neg (by show ¬ (10000 - (f1.length + 0) < f2.length); omega)]
  show (opErr k, St.op _ _) = _
  unfold St.op
  show (opErr k, (⟨10000, [fl 97 (f1 ++ f2) f1.length], 3, k - 1, (false || k == 1)⟩ : St)) = _
  simp
theorem la5 : putR ⟨10000, [fl 97 (f1 ++ f2) f1.length], 3, k, false⟩ nmB f3 = (opErr k, ⟨10000, [fl 97 (f1 ++ f2) f1.length, fl 98 f3 0], 4, k - 1, k == 1⟩) := by
  unfold putR
  rw [if_pos rB]
  unfold putNew
  have : find nmB.data.toList [fl 97 (f1 ++ f2) f1.length] = none := rfl
  simp only [this]
  unfold wrote
  rw [if_neg (by show ¬ (10000 - ((f1 ++ f2).length + 0) < f3.length); simp; omega)]
  show (opErr k, (⟨10000, [fl 97 (f1 ++ f2) f1.length, fl 98 f3 0], 4, k - 1, (false || k == 1)⟩ : St)) = _
  simp
end

/-- a disk whose power is off answers ErrCrash, and stays as it is -/
theorem off_app (s : St) (l : List UInt8) (h : s.off = true) : appended s nmA l = (10, s) := by unfold appended; rw [h, rA1]; rfl
theorem off_put (s : St) (l : List UInt8) (h : s.off = true) : putR s nmB l = (10, s) := by unfold putR; rw [h, rB1]; rfl
theorem off_sync (s : St) (h : s.off = true) : synced s nmB = (10, s) := by unfold synced; rw [h, rB1]; rfl
theorem off_ren (s : St) (h : s.off = true) : renamed s nmB nmC = (10, s) := by unfold renamed; rw [h, rBC1]; rfl

theorem la6a (f1 f3 : List UInt8) (j : Nat) : synced ⟨10000, [fl 97 f1 j, fl 98 f3 0], 4, 1, false⟩ nmB = (10, ⟨10000, [fl 97 f1 j, fl 98 f3 0], 5, 0, true⟩) := by
  unfold synced
  rw [if_pos rB]
  rfl
theorem la6b (f1 f3 : List UInt8) (j k : Nat) (hk : k ≠ 1) : synced ⟨10000, [fl 97 f1 j, fl 98 f3 0], 4, k, false⟩ nmB = (0, ⟨10000, [fl 97 f1 j, fl 98 f3 f3.length], 5, k - 1, false⟩) := by
  unfold synced
  rw [if_pos rB]
  unfold withSync
  have : find nmB.data.toList [fl 97 f1 j, fl 98 f3 0] = some (fl 98 f3 0) := rfl
  simp only [this]
  rw [if_neg hk]
  show ((0 : Int), (⟨10000, [fl 97 f1 j, fl 98 f3 f3.length], 5, k - 1, (false || k == 1)⟩ : St)) = _
  rw [show (k == 1) = false by simpa using hk]
  rfl
theorem la7a (f1 f3 : List UInt8) (j : Nat) : renamed ⟨10000, [fl 97 f1 j, fl 98 f3 f3.length], 5, 1, false⟩ nmB nmC = (10, ⟨10000, [fl 97 f1 j, fl 98 f3 f3.length], 6, 0, true⟩) := by
  unfold renamed
  rw [if_pos rBC]
  have : find nmB.data.toList [fl 97 f1 j, fl 98 f3 f3.length] = some (fl 98 f3 f3.length) := rfl
  simp only [this]
  rw [if_neg (by show ¬ f3.length < f3.length; omega)]
  unfold withRen
  simp only [this]
  rfl
theorem la7b (f1 f3 : List UInt8) (j k : Nat) (hk : k ≠ 1) : renamed ⟨10000, [fl 97 f1 j, fl 98 f3 f3.length], 5, k, false⟩ nmB nmC = (0, ⟨10000, [fl 97 f1 j, fl 99 f3 f3.length], 6, k - 1, false⟩) := by
  unfold renamed
  rw [if_pos rBC]
  have : find nmB.data.toList [fl 97 f1 j, fl 98 f3 f3.length] = some (fl 98 f3 f3.length) := rfl
  simp only [this]
  rw [if_neg (by show ¬ f3.length < f3.length; omega)]
  unfold withRen
  simp only [this]
  rw [if_neg hk]
  show ((0 : Int), (⟨10000, [fl 97 f1 j, fl 99 f3 f3.length], 6, k - 1, (false || k == 1)⟩ : St)) = _
  rw [show (k == 1) = false by simpa using hk]
  rfl

theorem take_left (f1 f2 : List UInt8) (q : Int) : ∃ m, m ≤ f2.length ∧ (f1 ++ f2).take (left (f1 ++ f2).length f1.length q) = f1 ++ f2.take m := by
  obtain ⟨h1, h2⟩ := left_le (n := (f1 ++ f2).length) (sure := f1.length) (keep := q) (by simp)
  refine ⟨left (f1 ++ f2).length f1.length q - f1.length, by simp at h2 ⊢; omega, ?_⟩
  rw [List.take_append, List.take_of_length_le h1]
theorem left_all (f3 : List UInt8) (q : Int) : f3.take (left f3.length f3.length q) = f3 := by
  obtain ⟨h1, h2⟩ := left_le (n := f3.length) (sure := f3.length) (keep := q) (Nat.le_refl _)
  exact List.take_of_length_le h1

def Reads (f1 f2 : List UInt8) (s : St) (ks : List Int) : Prop := ∃ m, m ≤ f2.length ∧ readR (restarted s ks) nmA = (f1 ++ f2.take m, 0)
theorem reads_a (f1 f2 : List UInt8) (r : List (File Unit)) (o k : Nat) (b : Bool) (ks : List Int) : Reads f1 f2 ⟨10000, fl 97 (f1 ++ f2) f1.length :: r, o, k, b⟩ ks := by
  obtain ⟨m, hm, e⟩ := take_left f1 f2 (ks[0]?.getD 0)
  refine ⟨m, hm, ?_⟩
  unfold readR
  rw [show (restarted ⟨10000, fl 97 (f1 ++ f2) f1.length :: r, o, k, b⟩ ks).off = false from rfl, if_pos rA]
  have : find nmA.data.toList (restarted ⟨10000, fl 97 (f1 ++ f2) f1.length :: r, o, k, b⟩ ks).files = some (lostF (ks[0]?.getD 0) (fl 97 (f1 ++ f2) f1.length)) := by
    unfold restarted restartFs
    rw [List.mapIdx_cons]
    rfl
  rw [this]
  show (((f1 ++ f2).take (left (f1 ++ f2).length f1.length (ks[0]?.getD 0))), (0 : Int)) = _
  rw [e]
theorem none_c1 (f1 : List UInt8) (j o k : Nat) (b : Bool) (ks : List Int) : readR (restarted ⟨10000, [fl 97 f1 j], o, k, b⟩ ks) nmC = ([], 8) := by
  unfold readR
  rw [show (restarted ⟨10000, [fl 97 f1 j], o, k, b⟩ ks).off = false from rfl, if_pos rC]
  rfl
theorem none_c2 (f1 f3 : List UInt8) (j i o k : Nat) (b : Bool) (ks : List Int) : readR (restarted ⟨10000, [fl 97 f1 j, fl 98 f3 i], o, k, b⟩ ks) nmC = ([], 8) := by
  unfold readR
  rw [show (restarted ⟨10000, [fl 97 f1 j, fl 98 f3 i], o, k, b⟩ ks).off = false from rfl, if_pos rC]
  rfl
theorem some_c (f1 f3 : List UInt8) (j o k : Nat) (b : Bool) (ks : List Int) : readR (restarted ⟨10000, [fl 97 f1 j, fl 99 f3 f3.length], o, k, b⟩ ks) nmC = (f3, 0) := by
  unfold readR
  rw [show (restarted ⟨10000, [fl 97 f1 j, fl 99 f3 f3.length], o, k, b⟩ ks).off = false from rfl, if_pos rC]
  show ((f3.take (left f3.length f3.length (ks[1]?.getD 0))), (0 : Int)) = _
  rw [left_all]

/-- all calls behind Arm -/
structure Run (f1 f2 f3 : List UInt8) (k : Nat) where
  s4 : St
  s5 : St
  s6 : St
  s7 : St
  x4 : Int
  x5 : Int
  x6 : Int
  x7 : Int
  e4 : appended (ls f1 k) nmA f2 = (x4, s4)
  e5 : putR s4 nmB f3 = (x5, s5)
  e6 : synced s5 nmB = (x6, s6)
  e7 : renamed s6 nmB nmC = (x7, s7)
  o4 : s4.ops ≤ 10
  o5 : s5.ops ≤ 10
  o6 : s6.ops ≤ 10
  hx : x7 = 0 → x6 = 0
  ha : ∀ ks, Reads f1 f2 s7 ks
  hc : ∀ ks, (x7 = 0 ∧ readR (restarted s7 ks) nmC = (f3, 0)) ∨ (x7 ≠ 0 ∧ readR (restarted s7 ks) nmC = ([], 8))

theorem run_all (f1 f2 f3 : List UInt8) (k : Nat) (hk : k < 7) (h : f1.length + f2.length + f3.length ≤ 3000) : Nonempty (Run f1 f2 f3 k) := by
  have e4 := la4 f1 f2 f3 k h
  by_cases h1 : k = 1
  · subst h1
    exact ⟨⟨_, _, _, _, _, _, _, _, e4, off_put _ _ rfl, off_sync _ rfl, off_ren _ rfl, by simp, by simp, by simp, by decide, fun ks => reads_a f1 f2 [] _ _ _ ks, fun ks => .inr ⟨by decide, none_c1 _ _ _ _ _ _⟩⟩⟩
  rw [show (k == 1) = false by simpa using h1, show opErr k = 0 from if_neg h1] at e4
  have e5 := la5 f1 f2 f3 (k - 1) h
  by_cases h2 : k = 2
  · subst h2
    exact ⟨⟨_, _, _, _, _, _, _, _, e4, e5, off_sync _ rfl, off_ren _ rfl, by simp, by simp, by simp, by decide, fun ks => reads_a f1 f2 [_] _ _ _ ks, fun ks => .inr ⟨by decide, none_c2 _ _ _ _ _ _ _ _⟩⟩⟩
  have h2' : k - 1 ≠ 1 := by omega
  rw [show (k - 1 == 1) = false by simpa using h2', show opErr (k - 1) = 0 from if_neg h2'] at e5
  by_cases h3 : k = 3
  · subst h3
    exact ⟨⟨_, _, _, _, _, _, _, _, e4, e5, la6a _ _ _, off_ren _ rfl, by simp, by simp, by simp, by decide, fun ks => reads_a f1 f2 [_] _ _ _ ks, fun ks => .inr ⟨by decide, none_c2 _ _ _ _ _ _ _ _⟩⟩⟩
  have e6 := la6b (f1 ++ f2) f3 f1.length (k - 1 - 1) (by omega)
  by_cases h4 : k = 4
  · subst h4
    exact ⟨⟨_, _, _, _, _, _, _, _, e4, e5, e6, la7a _ _ _, by simp, by simp, by simp, by decide, fun ks => reads_a f1 f2 [_] _ _ _ ks, fun ks => .inr ⟨by decide, none_c2 _ _ _ _ _ _ _ _⟩⟩⟩
  have e7 := la7b (f1 ++ f2) f3 f1.length (k - 1 - 1 - 1) (by omega)
  exact ⟨⟨_, _, _, _, _, _, _, _, e4, e5, e6, e7, by show 3 ≤ 10; omega, by show 4 ≤ 10; omega, by show 5 ≤ 10; omega, fun _ => rfl, fun ks => reads_a f1 f2 [_] _ _ _ ks, fun ks => .inl ⟨rfl, some_c _ _ _ _ _ _ _⟩⟩⟩
end Go.Proofs.Yteelnffdkckinaa
