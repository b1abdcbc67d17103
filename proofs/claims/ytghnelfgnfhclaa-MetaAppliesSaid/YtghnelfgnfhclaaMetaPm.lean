/-
  Plain mathematics of the planned move: loads, the first greatest and the first least, the move, and why moves come to an end.
-/
import Derived.Test.YtghnelfgnfhclaaMetaMath
namespace Go.Proofs.Ytghnelfgnfhclaa.M

/-- in how many rows a node is in sync -/
def cnt (rows : List R) (i : Int) : Nat := rows.countP (fun r => r.sync.contains i)
theorem cnt_le (rows : List R) (i : Int) : cnt rows i ≤ rows.length := List.countP_le_length
def loads (t : T) : List Int := (List.range t.nodes.toNat).map fun (j : Nat) => (cnt t.rows (j : Int) : Int)
theorem loads_len (t : T) : (loads t).length = t.nodes.toNat := by simp [loads]
theorem loads_at (t : T) {j : Nat} (h : j < t.nodes.toNat) : (loads t).getD j 0 = (cnt t.rows (j : Int) : Int) := by
  simp [loads, List.getD, h]

/-- the first greatest of the numbers at 0 to k -/
def top (l : List Int) : Nat → Nat
  | 0 => 0
  | k + 1 => if l.getD (top l k) 0 < l.getD (k + 1) 0 then k + 1 else top l k
/-- the first least -/
def low (l : List Int) : Nat → Nat
  | 0 => 0
  | k + 1 => if l.getD (k + 1) 0 < l.getD (low l k) 0 then k + 1 else low l k
theorem top_le (l : List Int) : ∀ k, top l k ≤ k := by
  intro k
  induction k with
  | zero => exact Nat.le_refl _
  | succ k ih => unfold top; split <;> omega
theorem low_le (l : List Int) : ∀ k, low l k ≤ k := by
  intro k
  induction k with
  | zero => exact Nat.le_refl _
  | succ k ih => unfold low; split <;> omega
theorem top_max (l : List Int) : ∀ k j, j ≤ k → l.getD j 0 ≤ l.getD (top l k) 0 := by
  intro k
  induction k with
  | zero => intro j hj; obtain rfl : j = 0 := by omega
            exact Int.le_refl _
  | succ k ih =>
    intro j hj
    unfold top
    rcases Nat.lt_or_ge j (k + 1) with h | h
    · have := ih j (by omega)
      split <;> omega
    · obtain rfl : j = k + 1 := by omega
      split <;> omega
theorem low_min (l : List Int) : ∀ k j, j ≤ k → l.getD (low l k) 0 ≤ l.getD j 0 := by
  intro k
  induction k with
  | zero => intro j hj; obtain rfl : j = 0 := by omega
            exact Int.le_refl _
  | succ k ih =>
    intro j hj
    unfold low
    rcases Nat.lt_or_ge j (k + 1) with h | h
    · have := ih j (by omega)
      split <;> omega
    · obtain rfl : j = k + 1 := by omega
      split <;> omega
theorem top_first (l : List Int) : ∀ k j, j < top l k → l.getD j 0 < l.getD (top l k) 0 := by
  intro k
  induction k with
  | zero => intro j hj; simp [top] at hj
  | succ k ih =>
    intro j hj
    unfold top at hj ⊢
    split at hj
    · rename_i h
      rw [if_pos h]
      have := top_max l k j (by omega)
      omega
    · rename_i h
      rw [if_neg h]
      exact ih j hj
theorem low_first (l : List Int) : ∀ k j, j < low l k → l.getD (low l k) 0 < l.getD j 0 := by
  intro k
  induction k with
  | zero => intro j hj; simp [low] at hj
  | succ k ih =>
    intro j hj
    unfold low at hj ⊢
    split at hj
    · rename_i h
      rw [if_pos h]
      have := low_min l k j (by omega)
      omega
    · rename_i h
      rw [if_neg h]
      exact ih j hj

def from_ (t : T) : Nat := top (loads t) (t.nodes.toNat - 1)
def to_ (t : T) : Nat := low (loads t) (t.nodes.toNat - 1)
def mayMove (f g : Nat) (r : R) : Bool := r.sync.contains (f : Int) && !r.sync.contains (g : Int)
/-- does a right table have a move? -/
def moves (t : T) : Bool := form t && decide (2 ≤ (loads t).getD (from_ t) 0 - (loads t).getD (to_ t) 0)
def which (t : T) : Nat := t.rows.findIdx (mayMove (from_ t) (to_ t))

theorem form_nodes {t : T} (h : form t = true) : 1 ≤ t.nodes ∧ t.nodes ≤ 5 ∧ 1 ≤ t.rows.length ∧ t.rows.length ≤ 8 := by
  unfold form at h
  simp only [Bool.and_eq_true, decide_eq_true_eq] at h
  omega
theorem from_lt {t : T} (h : 1 ≤ t.nodes) : from_ t < t.nodes.toNat := by
  have := top_le (loads t) (t.nodes.toNat - 1)
  unfold from_; omega
theorem to_lt {t : T} (h : 1 ≤ t.nodes) : to_ t < t.nodes.toNat := by
  have := low_le (loads t) (t.nodes.toNat - 1)
  unfold to_; omega
theorem cnt_mono {rows : List R} {f g : Int} (h : ∀ r ∈ rows, r.sync.contains f = true → r.sync.contains g = true) : cnt rows f ≤ cnt rows g :=
  List.countP_mono_left h
/-- where a move is wanted there is one -/
theorem which_lt {t : T} (h : moves t = true) : which t < t.rows.length := by
  unfold moves at h
  rw [Bool.and_eq_true, decide_eq_true_eq] at h
  obtain ⟨hf, h2⟩ := h
  have hn := form_nodes hf
  rw [loads_at t (from_lt hn.1), loads_at t (to_lt hn.1)] at h2
  rcases Nat.lt_or_ge (which t) t.rows.length with hc | hc
  · exact hc
  · exfalso
    unfold which at hc
    have hall : ∀ r ∈ t.rows, r.sync.contains ((from_ t : Nat) : Int) = true → r.sync.contains ((to_ t : Nat) : Int) = true := by
      intro r hr h3
      have := List.findIdx_eq_length.1 (Nat.le_antisymm List.findIdx_le_length hc) r hr
      unfold mayMove at this
      rw [h3, Bool.true_and] at this
      simpa using this
    have := cnt_mono hall
    omega
theorem which_row {t : T} (h : which t < t.rows.length) : mayMove (from_ t) (to_ t) t.rows[which t] = true := List.findIdx_getElem (p := mayMove (from_ t) (to_ t)) (w := h)

/-! ### the loads, counted one by one -/
def tally (nn : Nat) (rows : List R) (part : List Int) : List Int := (List.range nn).map fun (j : Nat) => (cnt rows (j : Int) : Int) + (if part.contains (j : Int) then 1 else 0)
theorem tally_len (nn : Nat) (rows : List R) (part : List Int) : (tally nn rows part).length = nn := by simp [tally]
theorem tally_zero (nn : Nat) : tally nn [] [] = List.replicate nn 0 := by
  refine List.ext_getElem (by simp [tally]) (fun j h1 h2 => ?_)
  simp [tally, cnt]
theorem tally_at {nn : Nat} {rows : List R} {part : List Int} {x : Nat} (hx : x < nn) : (tally nn rows part).getD x 0 = (cnt rows (x : Int) : Int) + (if part.contains (x : Int) then 1 else 0) := by
  simp [tally, List.getD, hx]
theorem tally_step {nn : Nat} {rows : List R} {part : List Int} {x : Nat} (hx : x < nn) (hn : ¬ (x : Int) ∈ part) : tally nn rows (part ++ [(x : Int)]) = (tally nn rows part).set x ((tally nn rows part).getD x 0 + 1) := by
  rw [tally_at hx]
  refine List.ext_getElem (by simp [tally]) (fun j h1 h2 => ?_)
  rw [List.getElem_set]
  by_cases e : x = j
  · subst e
    rw [if_pos rfl]
    simp [tally, hn]
  · rw [if_neg e]
    have e2 : ¬ (j : Int) = (x : Int) := by omega
    simp [tally, List.contains_eq_mem, e2]
theorem tally_row {nn : Nat} {rows : List R} {r : R} : tally nn (rows ++ [r]) [] = tally nn rows r.sync := by
  refine List.ext_getElem (by simp [tally]) (fun j h1 h2 => ?_)
  simp only [tally, List.getElem_map, List.getElem_range, cnt, List.countP_append, List.countP_cons, List.countP_nil]
  cases r.sync.contains (j : Int) <;> simp
theorem tally_all (t : T) : tally t.nodes.toNat t.rows [] = loads t := by
  unfold tally loads
  simp
theorem tally_le (nn : Nat) (rows : List R) (part : List Int) : ∀ z ∈ tally nn rows part, 0 ≤ z ∧ z ≤ rows.length + 1 := by
  intro z hz
  obtain ⟨j, _, rfl⟩ := List.mem_map.1 hz
  have := cnt_le rows (j : Int)
  split <;> omega
theorem getD_le {l : List Int} {b : Int} (h : ∀ z ∈ l, 0 ≤ z ∧ z ≤ b) (hb : 0 ≤ b) (x : Nat) : 0 ≤ l.getD x 0 ∧ l.getD x 0 ≤ b := by
  rw [List.getD_eq_getElem?_getD]
  rcases Nat.lt_or_ge x l.length with h1 | h1
  · rw [List.getElem?_eq_getElem h1]; exact h _ (List.getElem_mem h1)
  · rw [List.getElem?_eq_none h1]; exact ⟨Int.le_refl _, hb⟩

/-! ### why moves come to an end -/
def phi (a b c d e : Int) : Int := 5 * (a * a + b * b + c * c + d * d + e * e) - (a + b + c + d + e) * (a + b + c + d + e)
theorem sq_nonneg (x : Int) : 0 ≤ x * x := by
  rcases Int.le_total 0 x with h | h
  · exact Int.mul_nonneg h h
  · exact Int.mul_nonneg_of_nonpos_of_nonpos h h
theorem phi_nonneg (a b c d e : Int) : 0 ≤ phi a b c d e := by
  have h : phi a b c d e = (a - b) * (a - b) + (a - c) * (a - c) + (a - d) * (a - d) + (a - e) * (a - e) + (b - c) * (b - c) + (b - d) * (b - d) + (b - e) * (b - e) + (c - d) * (c - d) + (c - e) * (c - e) + (d - e) * (d - e) := by
    unfold phi; grind
  rw [h]
  have := sq_nonneg (a - b); have := sq_nonneg (a - c); have := sq_nonneg (a - d); have := sq_nonneg (a - e); have := sq_nonneg (b - c)
  have := sq_nonneg (b - d); have := sq_nonneg (b - e); have := sq_nonneg (c - d); have := sq_nonneg (c - e); have := sq_nonneg (d - e)
  omega
theorem sq_le8 {a : Int} (h0 : 0 ≤ a) (h8 : a ≤ 8) : a * a ≤ 8 * a := Int.mul_le_mul_of_nonneg_right h8 h0
theorem phi_le {a b c d e : Int} (ha : 0 ≤ a ∧ a ≤ 8) (hb : 0 ≤ b ∧ b ≤ 8) (hc : 0 ≤ c ∧ c ≤ 8) (hd : 0 ≤ d ∧ d ≤ 8) (he : 0 ≤ e ∧ e ≤ 8) : phi a b c d e ≤ 400 := by
  have h1 := sq_le8 ha.1 ha.2; have h2 := sq_le8 hb.1 hb.2; have h3 := sq_le8 hc.1 hc.2; have h4 := sq_le8 hd.1 hd.2; have h5 := sq_le8 he.1 he.2
  have h6 := sq_nonneg (a + b + c + d + e - 20)
  have h7 : (a + b + c + d + e - 20) * (a + b + c + d + e - 20) = (a + b + c + d + e) * (a + b + c + d + e) - 40 * (a + b + c + d + e) + 400 := by grind
  unfold phi
  rw [h7] at h6
  generalize (a + b + c + d + e) * (a + b + c + d + e) = L2 at *
  omega
def load (t : T) (j : Nat) : Int := (cnt t.rows (j : Int) : Int)
def pot (t : T) : Int := phi (load t 0) (load t 1) (load t 2) (load t 3) (load t 4)
theorem pot_nonneg (t : T) : 0 ≤ pot t := phi_nonneg _ _ _ _ _
theorem load_bd {t : T} (h : t.rows.length ≤ 8) (j : Nat) : 0 ≤ load t j ∧ load t j ≤ 8 := by
  have := cnt_le t.rows (j : Int)
  unfold load; omega
theorem pot_le {t : T} (h : t.rows.length ≤ 8) : pot t ≤ 400 := phi_le (load_bd h 0) (load_bd h 1) (load_bd h 2) (load_bd h 3) (load_bd h 4)
/-- what one more at g and one less at f makes -/
def bump (f g : Nat) (j : Nat) (x : Int) : Int := x - (if j = f then 1 else 0) + (if j = g then 1 else 0)
theorem phi_bump (f g : Nat) (hf : f < 5) (hg : g < 5) (l : Nat → Int) (h : 2 ≤ l f - l g) :
    phi (bump f g 0 (l 0)) (bump f g 1 (l 1)) (bump f g 2 (l 2)) (bump f g 3 (l 3)) (bump f g 4 (l 4)) + 10 ≤ phi (l 0) (l 1) (l 2) (l 3) (l 4) := by
  have hfg : f ≠ g := fun e => by subst e; omega
  have key : phi (bump f g 0 (l 0)) (bump f g 1 (l 1)) (bump f g 2 (l 2)) (bump f g 3 (l 3)) (bump f g 4 (l 4)) = phi (l 0) (l 1) (l 2) (l 3) (l 4) - 10 * (l f - l g) + 10 := by
    have h5 : f = 0 ∨ f = 1 ∨ f = 2 ∨ f = 3 ∨ f = 4 := by omega
    have h6 : g = 0 ∨ g = 1 ∨ g = 2 ∨ g = 3 ∨ g = 4 := by omega
    rcases h5 with rfl | rfl | rfl | rfl | rfl <;> rcases h6 with rfl | rfl | rfl | rfl | rfl <;> first | exact absurd rfl hfg | (simp [bump, phi]; grind)
  rw [key]; omega
/-- a move: the row without the one and with the other -/
theorem cnt_set {rows : List R} {k : Nat} (hk : k < rows.length) (r : R) (i : Int) : (cnt (rows.set k r) i : Int) = (cnt rows i : Int) - (if rows[k].sync.contains i then 1 else 0) + (if r.sync.contains i then 1 else 0) := by
  unfold cnt
  rw [List.countP_set hk]
  have hp : (if rows[k].sync.contains i = true then 1 else 0) ≤ rows.countP (fun r => r.sync.contains i) := by
    split
    · rename_i h
      exact List.countP_pos_iff.2 ⟨rows[k], List.getElem_mem hk, h⟩
    · exact Nat.zero_le _
  generalize rows.countP (fun r => r.sync.contains i) = N at *
  generalize rows[k].sync.contains i = b1 at *
  generalize r.sync.contains i = b2 at *
  cases b1 <;> cases b2 <;> simp at hp ⊢ <;> omega
end Go.Proofs.Ytghnelfgnfhclaa.M
