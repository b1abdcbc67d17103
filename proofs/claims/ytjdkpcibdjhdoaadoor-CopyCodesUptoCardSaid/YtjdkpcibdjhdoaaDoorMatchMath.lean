/-
  Plain mathematics of package match (which entries answer a query): no Go in it.
-/
import Derived.Test.YtjdkpcibdjhdoaaDoorWordsMath
namespace Go.Proofs.YtjdkpcibdjhdoaaDoor.M

/-- a part of a rising row: below, and not below -/
def Split (xs : List T) (x : T) (i j : Nat) : Prop := (∀ k (h : k < xs.length), k < i → xs[k] < x) ∧ (∀ k (h : k < xs.length), j ≤ k → ¬ xs[k] < x)
theorem Split.start (xs : List T) (x : T) : Split xs x 0 xs.length := ⟨fun k _ h => by omega, fun k h h2 => by omega⟩
theorem Split.up {xs : List T} {x : T} {i j h : Nat} (s : Split xs x i j) (hr : Rising xs) (hh : h < xs.length) (hl : xs[h] < x) : Split xs x (h + 1) j :=
  ⟨fun k hk hkh => by
    rcases Nat.lt_or_ge k h with h1 | h1
    · exact List.lt_trans ((List.pairwise_iff_getElem.1 hr) k h hk hh h1) hl
    · have : k = h := by omega
      subst this; exact hl, s.2⟩
theorem Split.down {xs : List T} {x : T} {i j h : Nat} (s : Split xs x i j) (hr : Rising xs) (hh : h < xs.length) (hl : ¬ xs[h] < x) : Split xs x i h :=
  ⟨s.1, fun k hk hkh => by
    rcases Nat.lt_or_ge h k with h1 | h1
    · exact fun h2 => hl (List.lt_trans ((List.pairwise_iff_getElem.1 hr) h k hh hk h1) h2)
    · have : k = h := by omega
      subst this; exact hl⟩
theorem Split.none {xs : List T} {x : T} {i : Nat} (s : Split xs x i i) (hi : xs.length ≤ i) : decide (x ∈ xs) = false := by
  simp only [decide_eq_false_iff_not]
  intro hm
  obtain ⟨k, hk, rfl⟩ := List.getElem_of_mem hm
  exact List.lt_irrefl _ (s.1 k hk (by omega))
theorem Split.at_ {xs : List T} {x : T} {i : Nat} (s : Split xs x i i) (hr : Rising xs) (hi : i < xs.length) : decide (x ∈ xs) = decide (xs[i] = x) := by
  rw [decide_eq_decide]
  constructor
  · intro hm
    obtain ⟨k, hk, e⟩ := List.getElem_of_mem hm
    rcases Nat.lt_trichotomy k i with h | h | h
    · have := s.1 k hk h; rw [e] at this; exact absurd this (List.lt_irrefl _)
    · subst h; exact e
    · have h1 := (List.pairwise_iff_getElem.1 hr) i k hi hk h
      rw [e] at h1
      exact absurd h1 (s.2 i hi (Nat.le_refl _))
  · intro e; rw [← e]; exact List.getElem_mem _

/-- an entry -/
structure D where
  id : T
  time : Int
  text : T
instance : Inhabited D := ⟨⟨[], 0, []⟩⟩
deriving instance DecidableEq for D

/-- which of two comes first -/
def cmpI (a b : Int) : Int := if a < b then -1 else if b < a then 1 else 0
def cmpT (a b : T) : Int := if a < b then -1 else if b < a then 1 else 0
def order (a b : D) : Int := if cmpI a.time b.time ≠ 0 then cmpI a.time b.time else cmpT a.id b.id
def ahead (a b : D) : Bool := decide (a.time < b.time) || (decide (a.time = b.time) && decide (a.id < b.id))
theorem cmpI_lt {a b : Int} (h : a < b) : cmpI a b = -1 := by simp [cmpI, h]
theorem cmpI_gt {a b : Int} (h : b < a) : cmpI a b = 1 := by
  have : ¬ a < b := by omega
  simp [cmpI, h, this]
theorem cmpI_eq (a : Int) : cmpI a a = 0 := by simp [cmpI]
theorem cmpT_lt {a b : T} (h : a < b) : cmpT a b = -1 := by simp [cmpT, h]
theorem cmpT_gt {a b : T} (h : b < a) : cmpT a b = 1 := by
  have : ¬ a < b := fun h2 => List.lt_irrefl _ (List.lt_trans h h2)
  simp [cmpT, h, this]
theorem cmpT_eq (a : T) : cmpT a a = 0 := by simp [cmpT, List.lt_irrefl]
theorem T_tri (a b : T) : a < b ∨ a = b ∨ b < a := by
  by_cases h : a < b
  · exact .inl h
  · by_cases h2 : b < a
    · exact .inr (.inr h2)
    · exact .inr (.inl (List.le_antisymm (List.not_lt.1 h2) (List.not_lt.1 h)))
theorem order_cases (a b : D) : (order a b = -1 ∧ ahead a b = true ∧ ahead b a = false) ∨ (order a b = 0 ∧ ahead a b = false ∧ ahead b a = false ∧ a.time = b.time ∧ a.id = b.id) ∨ (order a b = 1 ∧ ahead a b = false ∧ ahead b a = true) := by
  rcases Int.lt_trichotomy a.time b.time with h | h | h
  · left
    have h1 : ¬ b.time < a.time := by omega
    have h2 : ¬ b.time = a.time := by omega
    simp [order, cmpI_lt h, ahead, h, h1, h2]
  · rcases T_tri a.id b.id with h2 | h2 | h2
    · left
      have h3 : ¬ b.id < a.id := fun h3 => List.lt_irrefl _ (List.lt_trans h2 h3)
      simp [order, h, cmpI_eq, cmpT_lt h2, ahead, h2, h3]
    · right; left
      simp [order, h, cmpI_eq, h2, cmpT_eq, ahead, List.lt_irrefl]
    · right; right
      have h3 : ¬ a.id < b.id := fun h3 => List.lt_irrefl _ (List.lt_trans h2 h3)
      simp [order, h, cmpI_eq, cmpT_gt h2, ahead, h2, h3]
  · right; right
    have h1 : ¬ a.time < b.time := by omega
    have h2 : ¬ a.time = b.time := by omega
    simp [order, cmpI_gt h, ahead, h, h1, h2]
theorem ahead_trans {a b c : D} (h1 : ahead b a = false) (h2 : ahead c b = false) : ahead c a = false := by
  simp only [ahead, Bool.or_eq_false_iff, Bool.and_eq_false_iff, decide_eq_false_iff_not] at *
  refine ⟨by omega, ?_⟩
  by_cases hc : c.time = a.time
  · right
    have e1 : b.time = a.time := by omega
    have e2 : c.time = b.time := by omega
    have h3 : ¬ b.id < a.id := h1.2.resolve_left (by simp [e1])
    have h4 : ¬ c.id < b.id := h2.2.resolve_left (by simp [e2])
    exact List.not_lt.2 (List.le_trans (List.not_lt.1 h3) (List.not_lt.1 h4))
  · left; exact hc
theorem order_turned (a b : D) : decide (order b a < 0) = decide (0 < order a b) := by
  rcases order_cases a b with h | h | h <;> rcases order_cases b a with g | g | g <;> simp_all
theorem order_neg (a b : D) : order b a = - order a b := by
  rcases order_cases a b with h | h | h <;> rcases order_cases b a with g | g | g <;> simp_all
theorem order_lt (a b : D) : decide (order a b < 0) = ahead a b := by
  rcases order_cases a b with h | h | h <;> simp [h]
theorem order_gt (a b : D) : decide (0 < order a b) = ahead b a := by
  rcases order_cases a b with h | h | h <;> simp [h]
theorem order_le_trans {a b c : D} (h1 : order a b ≤ 0) (h2 : order b c ≤ 0) : order a c ≤ 0 := by
  have e1 : ahead b a = false := by rw [← order_gt]; simp; omega
  have e2 : ahead c b = false := by rw [← order_gt]; simp; omega
  have e3 := ahead_trans e1 e2
  rw [← order_gt] at e3
  simpa using e3
theorem order_range (a b : D) : -1 ≤ order a b ∧ order a b ≤ 1 := by rcases order_cases a b with h | h | h <;> omega

/-- which can be entries -/
def formB (id text : T) : Bool := decide (0 < id.length) && decide (id.length ≤ 32) && decide (text.length ≤ 512) && id.all fun c => decide (33 ≤ c.toNat ∧ c.toNat ≤ 126)
end Go.Proofs.YtjdkpcibdjhdoaaDoor.M
