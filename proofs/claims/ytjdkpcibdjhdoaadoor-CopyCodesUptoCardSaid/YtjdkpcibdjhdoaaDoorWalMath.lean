/-
  Records at the front of bytes, as lists, of no program.
-/
import Derived.Test.YtjdkpcibdjhdoaaDoorFrameMath
namespace Go.Proofs.YtjdkpcibdjhdoaaDoor.M

/-- the records from place k on, and where they end; f: at most so many -/
def scanN : Nat → List UInt8 → Nat → List (List UInt8) × Nat
  | 0, _, k => ([], k)
  | f + 1, l, k => if (rdFrame l k).2.2 = 0 then ((rdFrame l k).1 :: (scanN f l (rdFrame l k).2.1).1, (scanN f l (rdFrame l k).2.1).2) else ([], k)
def scan (l : List UInt8) : List (List UInt8) × Nat := scanN (l.length + 1) l 0

theorem rdFrame_adv {l : List UInt8} {k : Nat} (h : (rdFrame l (k : Int)).2.2 = 0) : k < (rdFrame l k).2.1 ∧ (rdFrame l k).2.1 ≤ l.length ∧ (rdFrame l k).1.length ≤ l.length ∧ (rdFrame l k).1.length ≤ 65535 := by
  unfold rdFrame at h ⊢
  by_cases h1 : (k : Int) < 0 ∨ (l.length : Int) < (k : Int)
  · rw [if_pos h1] at h; simp at h
  rw [if_neg h1] at h ⊢
  by_cases h2 : (k : Int) = (l.length : Int)
  · rw [if_pos h2] at h; simp at h
  rw [if_neg h2] at h ⊢
  by_cases h3 : at8 l (k : Int).toNat ≠ 241
  · rw [if_pos h3] at h; simp at h
  rw [if_neg h3] at h ⊢
  by_cases h4 : (rdAt l ((k : Int) + 1)).2.2 ≠ 0 ∨ 65535 < (rdAt l ((k : Int) + 1)).1
  · rw [if_pos h4] at h; simp at h
  rw [if_neg h4] at h ⊢
  by_cases h5 : l.length ≤ (rdAt l ((k : Int) + 1)).2.1 + 4 + (rdAt l ((k : Int) + 1)).1 ∨ at8 l ((rdAt l ((k : Int) + 1)).2.1 + 4 + (rdAt l ((k : Int) + 1)).1) ≠ 31
  · rw [if_pos h5] at h; simp at h
  rw [if_neg h5] at h ⊢
  by_cases h6 : sum ((l.drop ((rdAt l ((k : Int) + 1)).2.1 + 4)).take (rdAt l ((k : Int) + 1)).1) ≠ be4 (l.drop (rdAt l ((k : Int) + 1)).2.1)
  · rw [if_pos h6] at h; simp at h
  rw [if_neg h6]
  have h40 : (rdAt l ((k : Int) + 1)).2.2 = 0 := by
    by_cases e : (rdAt l ((k : Int) + 1)).2.2 = 0
    · exact e
    · exact absurd (.inl e) h4
  have := rdAt_le h40
  have h5' : ¬ l.length ≤ (rdAt l ((k : Int) + 1)).2.1 + 4 + (rdAt l ((k : Int) + 1)).1 := fun e => h5 (.inl e)
  have h4' : ¬ 65535 < (rdAt l ((k : Int) + 1)).1 := fun e => h4 (.inr e)
  refine ⟨?_, ?_, ?_, ?_⟩
  · show k < (rdAt l ((k : Int) + 1)).2.1 + 4 + (rdAt l ((k : Int) + 1)).1 + 1
    omega
  · show (rdAt l ((k : Int) + 1)).2.1 + 4 + (rdAt l ((k : Int) + 1)).1 + 1 ≤ l.length
    omega
  · show ((l.drop ((rdAt l ((k : Int) + 1)).2.1 + 4)).take (rdAt l ((k : Int) + 1)).1).length ≤ l.length
    simp; omega
  · show ((l.drop ((rdAt l ((k : Int) + 1)).2.1 + 4)).take (rdAt l ((k : Int) + 1)).1).length ≤ 65535
    simp; omega

/-- more steps than there are bytes change nothing -/
theorem scanN_stable (l : List UInt8) : ∀ (f g k : Nat), l.length < f + k → l.length < g + k → scanN f l k = scanN g l k := by
  intro f
  induction f with
  | zero =>
    intro g k h1 h2
    have hno : (rdFrame l (k : Int)).2.2 ≠ 0 := by
      unfold rdFrame
      rw [if_pos (.inr (by omega))]
      simp
    cases g with
    | zero => rfl
    | succ g => rw [scanN, scanN, if_neg hno]
  | succ f ih =>
    intro g k h1 h2
    by_cases hok : (rdFrame l (k : Int)).2.2 = 0
    · obtain ⟨a1, a2, _⟩ := rdFrame_adv hok
      cases g with
      | zero => omega
      | succ g =>
        rw [scanN, scanN, if_pos hok, if_pos hok, ih g _ (by omega) (by omega)]
    · cases g with
      | zero => rw [scanN, scanN, if_neg hok]
      | succ g => rw [scanN, scanN, if_neg hok, if_neg hok]

/-- from place k on -/
def scanFrom (l : List UInt8) (k : Nat) : List (List UInt8) × Nat := scanN (l.length + 1) l k
theorem scanFrom_ok {l : List UInt8} {k : Nat} (h : (rdFrame l (k : Int)).2.2 = 0) : scanFrom l k = ((rdFrame l k).1 :: (scanFrom l (rdFrame l k).2.1).1, (scanFrom l (rdFrame l k).2.1).2) := by
  obtain ⟨a1, a2, _⟩ := rdFrame_adv h
  unfold scanFrom
  rw [scanN, if_pos h, scanN_stable l l.length (l.length + 1) _ (by omega) (by omega)]
theorem scanFrom_no {l : List UInt8} {k : Nat} (h : (rdFrame l (k : Int)).2.2 ≠ 0) : scanFrom l k = ([], k) := by
  unfold scanFrom
  rw [scanN, if_neg h]
end Go.Proofs.YtjdkpcibdjhdoaaDoor.M
