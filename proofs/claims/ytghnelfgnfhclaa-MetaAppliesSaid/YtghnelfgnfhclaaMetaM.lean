/-
  The law MetaStays, by the contracts.
-/
import Derived.Test.YtghnelfgnfhclaaMetaK
import Derived.Test.YtghnelfgnfhclaaArgsM
namespace Go.Proofs.Ytghnelfgnfhclaa.M
theorem ins_sub {top x : Int} {l : List Int} (h : rises top (-1) l = true) (hx : 0 ≤ x ∧ x < top) (hn : ¬ x ∈ l) : rises top (-1) (ins l x) = true :=
  rises_of (ins_pair (rises_pair h) hn) (fun y hy => by
    rcases (ins_mem l x y).1 hy with rfl | hy
    · omega
    · exact rises_mem h y hy)
theorem del_sub {top x : Int} {l : List Int} (h : rises top (-1) l = true) : rises top (-1) (del l x) = true :=
  rises_of (del_pair (rises_pair h)) (fun y hy => by
    unfold del at hy
    rcases List.mem_append.1 hy with hy | hy
    · exact rises_mem h y (List.mem_of_mem_take hy)
    · exact rises_mem h y (List.mem_of_mem_drop hy))
theorem next_right {r : R} {c : C} {nodes : Int} (hr : rightRow r nodes = true) (hd : does r c = true) (hn : 0 ≤ c.node ∧ c.node < nodes) : rightRow (next r c) nodes = true := by
  unfold rightRow at hr ⊢
  simp only [Bool.and_eq_true, decide_eq_true_eq] at hr ⊢
  obtain ⟨⟨h1, h2⟩, h3⟩ := hr
  have h3' : r.prim ∈ r.sync := by simpa using h3
  unfold does at hd
  unfold next
  split at hd
  · exact ⟨⟨h1, by simp only; omega⟩, hd⟩
  · have hx : ¬ c.node ∈ r.sync := by simpa using hd
    exact ⟨⟨ins_sub h1 hn hx, h2⟩, by simp only [List.contains_iff_mem]; exact (ins_mem _ _ _).2 (.inr h3')⟩
  · simp only [Bool.and_eq_true, decide_eq_true_eq] at hd
    have hx : c.node ∈ r.sync := by simpa using hd.1
    exact ⟨⟨del_sub h1, h2⟩, by simp only [List.contains_iff_mem]; exact (del_mem (rises_pair h1) hx _).2 ⟨h3', fun e => hd.2 e.symm⟩⟩
  · cases hd
theorem next_rev {r : R} {c : C} (hd : does r c = true) : (next r c).rev = r.rev + 1 ∧ r.term ≤ (next r c).term := by
  unfold does at hd
  unfold next
  split at hd
  · exact ⟨rfl, by simp only; omega⟩
  · exact ⟨rfl, Nat.le_refl _⟩
  · exact ⟨rfl, Nat.le_refl _⟩
  · cases hd
/-- in how many of the first rows the number of changes is another one -/
def diffs (t u : T) : Nat → Nat
  | 0 => 0
  | k + 1 => diffs t u k + (if (t.rows[k]?).map R.rev = (u.rows[k]?).map R.rev then 0 else 1)
end Go.Proofs.Ytghnelfgnfhclaa.M
namespace Go.Proofs.Ytghnelfgnfhclaa
open Go.RowKit Mem Go.ChangeShapes
set_option linter.unusedVariables false
set_option maxRecDepth 100000

theorem apply_form {t : M.T} {c : M.C} (h : M.form t = true) : M.form (M.apply t c) = true := by
  by_cases hf : M.fits t c = true
  · obtain ⟨hform, ⟨k, hk, hkl⟩, hnode, hrv, hdoes⟩ := fits_yes hf
    obtain ⟨hre, hrm⟩ := row_mem hk hkl
    unfold M.form at h ⊢
    simp only [Bool.and_eq_true, decide_eq_true_eq, List.all_eq_true] at h ⊢
    rw [apply_nodes, apply_len]
    refine ⟨h.1, fun r hr => ?_⟩
    unfold M.apply at hr
    rw [if_pos hf] at hr
    rcases List.mem_or_eq_of_mem_set hr with hr | rfl
    · exact h.2 r hr
    · exact M.next_right (h.2 _ hrm) hdoes hnode
  · rw [apply_no (by simpa using hf)]; exact h
theorem apply_at {t : M.T} {c : M.C} (hf : M.fits t c = true) {k : Nat} (hk : c.shard = (k : Int)) (j : Nat) : (M.apply t c).rows[j]? = if j = k then (t.rows[j]?).map (fun _ => M.next (M.row t c) c) else t.rows[j]? := by
  unfold M.apply
  rw [if_pos hf, hk, Int.toNat_natCast, List.getElem?_set]
  by_cases e : k = j
  · rw [if_pos e, if_pos e.symm]
    by_cases hl : k < t.rows.length
    · rw [if_pos hl, ← e, List.getElem?_eq_getElem hl]; rfl
    · rw [if_neg hl, ← e, List.getElem?_eq_none (by omega)]; rfl
  · rw [if_neg e, if_neg (fun h => e h.symm)]
/-- a row behind a command: its numbers do not fall -/
theorem apply_grows {t : M.T} {c : M.C} {j : Nat} {x y : M.R} (hx : t.rows[j]? = some x) (hy : (M.apply t c).rows[j]? = some y) : x.rev ≤ y.rev ∧ x.term ≤ y.term := by
  by_cases hf : M.fits t c = true
  · obtain ⟨hform, ⟨k, hk, hkl⟩, hnode, hrv, hdoes⟩ := fits_yes hf
    obtain ⟨hre, hrm⟩ := row_mem hk hkl
    rw [apply_at hf hk] at hy
    by_cases e : j = k
    · rw [if_pos e, hx] at hy
      injection hy with hy
      subst hy
      have h1 : M.row t c = x := by
        rw [hre]
        rw [e, List.getElem?_eq_getElem hkl] at hx
        exact Option.some.inj hx
      have := M.next_rev hdoes
      rw [h1] at this ⊢
      show x.rev ≤ (M.next x c).rev ∧ x.term ≤ (M.next x c).term
      omega
    · rw [if_neg e, hx] at hy
      injection hy with hy
      subst hy
      omega
  · rw [apply_no (by simpa using hf), hx] at hy
    injection hy with hy
    subst hy
    omega
theorem diffs_no {t : M.T} : ∀ k, M.diffs t t k = 0 := by
  intro k
  induction k with
  | zero => rfl
  | succ k ih => rw [M.diffs, ih, if_pos rfl]
theorem diffs_yes {t : M.T} {c : M.C} (hf : M.fits t c = true) {k : Nat} (hk : c.shard = (k : Int)) (hkl : k < t.rows.length) : ∀ j, M.diffs t (M.apply t c) j = if k < j then 1 else 0 := by
  obtain ⟨hform, -, hnode, hrv, hdoes⟩ := fits_yes hf
  obtain ⟨hre, hrm⟩ := row_mem hk hkl
  intro j
  induction j with
  | zero => rfl
  | succ j ih =>
    rw [M.diffs, ih, apply_at hf hk]
    by_cases e : j = k
    · subst e
      have h1 := (M.next_rev hdoes).1
      have h2 : ¬ (t.rows[j]?).map M.R.rev = ((t.rows[j]?).map (fun _ => M.next (M.row t c) c)).map M.R.rev := by
        rw [List.getElem?_eq_getElem hkl]
        simp only [Option.map_some, Option.some.injEq]
        rw [h1, hre]
        omega
      rw [if_pos rfl, if_neg h2, if_neg (by omega), if_pos (by omega)]
    · rw [if_neg e, if_pos rfl]
      by_cases h : k < j
      · rw [if_pos h, if_pos (by omega)]
      · rw [if_neg h, if_neg (by omega)]
theorem diffs_all (t : M.T) (c : M.C) : M.diffs t (M.apply t c) t.rows.length = if M.fits t c = true then 1 else 0 := by
  by_cases hf : M.fits t c = true
  · obtain ⟨hform, ⟨k, hk, hkl⟩, -⟩ := fits_yes hf
    rw [diffs_yes hf hk hkl, if_pos hkl, if_pos hf]
  · rw [apply_no (by simpa using hf), diffs_no, if_neg hf]
/-- a command is done once at most -/
theorem fits_once {t : M.T} {c : M.C} (hf : M.fits t c = true) : M.fits (M.apply t c) c = false := by
  obtain ⟨hform, ⟨k, hk, hkl⟩, hnode, hrv, hdoes⟩ := fits_yes hf
  rw [Bool.eq_false_iff]
  intro h2
  obtain ⟨_, ⟨k2, hk2, hkl2⟩, _, hrv2, _⟩ := fits_yes h2
  obtain ⟨hre2, _⟩ := row_mem hk2 hkl2
  have e : k2 = k := by omega
  subst e
  have h3 := apply_at hf hk k2
  rw [if_pos rfl, List.getElem?_eq_getElem hkl2, List.getElem?_eq_getElem hkl] at h3
  injection h3 with h3
  have h4 := M.next_rev hdoes
  have h5 := hrv2.1
  rw [hre2, h3] at h5
  have h6 : c.rev = (M.next (M.row t c) c).rev := h5
  have h7 := hrv.1
  omega
end Go.Proofs.Ytghnelfgnfhclaa
