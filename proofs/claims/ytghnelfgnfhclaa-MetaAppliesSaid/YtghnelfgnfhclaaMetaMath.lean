/-
  Plain mathematics of package meta: rows, tables, commands; which are right; what a command does; the table at the beginning; the planned move.
-/
namespace Go.Proofs.Ytghnelfgnfhclaa.M
structure R where
  rev : Nat
  term : Nat
  prim : Int
  sync : List Int
deriving DecidableEq
structure T where
  nodes : Int
  rows : List R
deriving DecidableEq
structure C where
  kind : Nat
  shard : Int
  node : Int
  rev : Nat
deriving DecidableEq

/-- numbers that rise, behind a number, below a bound -/
def rises (top : Int) : Int → List Int → Bool
  | _, [] => true
  | last, x :: l => decide (last < x ∧ x < top) && rises top x l
def rightRow (r : R) (nodes : Int) : Bool := rises nodes (-1) r.sync && decide (1 ≤ r.term) && r.sync.contains r.prim
def form (t : T) : Bool := decide (1 ≤ t.nodes ∧ t.nodes ≤ 5) && decide (1 ≤ t.rows.length ∧ t.rows.length ≤ 8) && t.rows.all (fun r => rightRow r t.nodes)

theorem rises_mem {top : Int} : ∀ {l : List Int} {last : Int}, rises top last l = true → ∀ x ∈ l, last < x ∧ x < top := by
  intro l
  induction l with
  | nil => intro _ _ x hx; cases hx
  | cons a l ih =>
    intro last h x hx
    rw [rises, Bool.and_eq_true, decide_eq_true_eq] at h
    rcases List.mem_cons.1 hx with rfl | hx
    · exact h.1
    · have := ih h.2 x hx; omega
theorem rises_pair {top : Int} : ∀ {l : List Int} {last : Int}, rises top last l = true → l.Pairwise (· < ·) := by
  intro l
  induction l with
  | nil => intro _ _; exact .nil
  | cons a l ih =>
    intro last h
    rw [rises, Bool.and_eq_true] at h
    exact .cons (fun x hx => (rises_mem h.2 x hx).1) (ih h.2)
theorem rises_of {top : Int} : ∀ {l : List Int} {last : Int}, l.Pairwise (· < ·) → (∀ x ∈ l, last < x ∧ x < top) → rises top last l = true := by
  intro l
  induction l with
  | nil => intro _ _ _; rfl
  | cons a l ih =>
    intro last h hm
    cases h with
    | cons h1 h2 =>
      rw [rises, Bool.and_eq_true, decide_eq_true_eq]
      exact ⟨hm a (by simp), ih h2 (fun x hx => ⟨h1 x hx, (hm x (List.mem_cons_of_mem _ hx)).2⟩)⟩
/-- rising lists of the same numbers are the same -/
theorem rise_ext : ∀ {l r : List Int}, l.Pairwise (· < ·) → r.Pairwise (· < ·) → (∀ x, x ∈ l ↔ x ∈ r) → l = r := by
  intro l
  induction l with
  | nil =>
    intro r _ _ h
    cases r with
    | nil => rfl
    | cons b r => exact absurd ((h b).2 (by simp)) (by simp)
  | cons a l ih =>
    intro r hl hr h
    cases r with
    | nil => exact absurd ((h a).1 (by simp)) (by simp)
    | cons b r =>
      cases hl with
      | cons l1 l2 =>
        cases hr with
        | cons r1 r2 =>
          have hab : a = b := by
            rcases List.mem_cons.1 ((h a).1 (by simp)) with e | e
            · exact e
            · rcases List.mem_cons.1 ((h b).2 (by simp)) with e2 | e2
              · exact e2.symm
              · have := r1 _ e; have := l1 _ e2; omega
          subst hab
          congr 1
          refine ih l2 r2 (fun x => ?_)
          constructor
          · intro hx
            rcases List.mem_cons.1 ((h x).1 (List.mem_cons_of_mem _ hx)) with e | e
            · have := l1 _ hx; omega
            · exact e
          · intro hx
            rcases List.mem_cons.1 ((h x).2 (List.mem_cons_of_mem _ hx)) with e | e
            · have := r1 _ hx; omega
            · exact e

/-- may the command be done on the row? -/
def does (r : R) (c : C) : Bool := match c.kind with
  | 1 => r.sync.contains c.node
  | 2 => !r.sync.contains c.node
  | 3 => r.sync.contains c.node && decide (c.node ≠ r.prim)
  | _ => false
def row (t : T) (c : C) : R := (t.rows[c.shard.toNat]?).getD ⟨0, 0, 0, []⟩
def place (t : T) (c : C) : Bool := form t && decide (0 ≤ c.shard ∧ c.shard < t.rows.length) && decide (0 ≤ c.node ∧ c.node < t.nodes)
def bound : Nat := 1152921504606846976
def turn (r : R) (c : C) : Bool := decide (c.rev = r.rev ∧ r.rev < bound ∧ r.term < bound)
def fits (t : T) (c : C) : Bool := place t c && turn (row t c) c && does (row t c) c
/-- where a number stands, or would stand -/
def at_ (l : List Int) (x : Int) : Nat := l.countP (· < x)
def ins (l : List Int) (x : Int) : List Int := l.take (at_ l x) ++ x :: l.drop (at_ l x)
def del (l : List Int) (x : Int) : List Int := l.take (at_ l x) ++ l.drop (at_ l x + 1)
def next (r : R) (c : C) : R := match c.kind with
  | 1 => { r with rev := r.rev + 1, term := r.term + 1, prim := c.node }
  | 2 => { r with rev := r.rev + 1, sync := ins r.sync c.node }
  | 3 => { r with rev := r.rev + 1, sync := del r.sync c.node }
  | _ => r
def apply (t : T) (c : C) : T := if fits t c then { t with rows := t.rows.set c.shard.toNat (next (row t c) c) } else t

theorem at_le (l : List Int) (x : Int) : at_ l x ≤ l.length := List.countP_le_length
theorem at_split : ∀ {l : List Int} {x : Int}, l.Pairwise (· < ·) → (∀ y ∈ l.take (at_ l x), y < x) ∧ (∀ y ∈ l.drop (at_ l x), x ≤ y) := by
  intro l x h
  induction h with
  | nil => simp [at_]
  | @cons a l h1 h2 ih =>
    unfold at_ at ih ⊢
    rw [List.countP_cons]
    by_cases ha : a < x
    · rw [if_pos (by simpa using ha)]
      simp only [List.take_succ_cons, List.drop_succ_cons]
      refine ⟨fun y hy => ?_, ih.2⟩
      rcases List.mem_cons.1 hy with rfl | hy
      · exact ha
      · exact ih.1 y hy
    · have h0 : l.countP (· < x) = 0 := List.countP_eq_zero.2 (fun y hy => by have := h1 y hy; simp; omega)
      rw [if_neg (by simpa using ha), h0]
      refine ⟨fun y hy => by simp at hy, fun y hy => ?_⟩
      simp only [Nat.add_zero, List.drop_zero] at hy
      rcases List.mem_cons.1 hy with rfl | hy
      · omega
      · have := h1 y hy; omega
theorem ins_mem (l : List Int) (x y : Int) : y ∈ ins l x ↔ y = x ∨ y ∈ l := by
  unfold ins
  rw [List.mem_append, List.mem_cons]
  constructor
  · rintro (h | h | h)
    · exact .inr (List.mem_of_mem_take h)
    · exact .inl h
    · exact .inr (List.mem_of_mem_drop h)
  · rintro (h | h)
    · exact .inr (.inl h)
    · rw [← List.take_append_drop (at_ l x) l, List.mem_append] at h
      exact h.elim .inl (fun h => .inr (.inr h))
theorem ins_pair {l : List Int} {x : Int} (h : l.Pairwise (· < ·)) (hx : ¬ x ∈ l) : (ins l x).Pairwise (· < ·) := by
  obtain ⟨h1, h2⟩ := at_split (x := x) h
  unfold ins
  rw [List.pairwise_append]
  refine ⟨h.sublist (List.take_sublist _ _), .cons (fun y hy => ?_) (h.sublist (List.drop_sublist _ _)), fun a ha b hb => ?_⟩
  · have := h2 y hy
    have : y ≠ x := fun e => hx (e ▸ List.mem_of_mem_drop hy)
    omega
  · have := h1 a ha
    rcases List.mem_cons.1 hb with rfl | hb
    · exact this
    · have := h2 b hb; omega
theorem del_drop {l : List Int} {x : Int} (h : l.Pairwise (· < ·)) (hx : x ∈ l) : l.drop (at_ l x) = x :: l.drop (at_ l x + 1) := by
  obtain ⟨h1, h2⟩ := at_split (x := x) h
  have hm : x ∈ l.drop (at_ l x) := by
    rw [← List.take_append_drop (at_ l x) l, List.mem_append] at hx
    rcases hx with hx | hx
    · have := h1 x hx; omega
    · exact hx
  have hp := h.sublist (List.drop_sublist (at_ l x) l)
  rw [← List.drop_drop]
  generalize l.drop (at_ l x) = d at *
  cases d with
  | nil => cases hm
  | cons a d =>
    rcases List.mem_cons.1 hm with rfl | hm'
    · rfl
    · have h3 : x ≤ a := h2 a (by simp)
      cases hp with
      | cons p1 p2 => have := p1 x hm'; omega
theorem at_lt {l : List Int} {x : Int} (h : l.Pairwise (· < ·)) (hx : x ∈ l) : at_ l x < l.length := by
  have := del_drop h hx
  have h2 := congrArg List.length this
  simp at h2
  omega
theorem del_mem {l : List Int} {x : Int} (h : l.Pairwise (· < ·)) (hx : x ∈ l) (y : Int) : y ∈ del l x ↔ y ∈ l ∧ y ≠ x := by
  obtain ⟨h1, h2⟩ := at_split (x := x) h
  have hd := del_drop h hx
  have hp := h.sublist (List.drop_sublist (at_ l x) l)
  rw [hd] at hp h2
  have e : l = l.take (at_ l x) ++ x :: l.drop (at_ l x + 1) := by rw [← hd, List.take_append_drop]
  unfold del
  rw [List.mem_append]
  cases hp with
  | cons p1 p2 =>
    constructor
    · rintro (hy | hy)
      · exact ⟨List.mem_of_mem_take hy, by have := h1 y hy; omega⟩
      · exact ⟨List.mem_of_mem_drop hy, by have := p1 y hy; omega⟩
    · rintro ⟨hy, hne⟩
      rw [e, List.mem_append, List.mem_cons] at hy
      rcases hy with hy | hy | hy
      · exact .inl hy
      · exact absurd hy hne
      · exact .inr hy
theorem del_pair {l : List Int} {x : Int} (h : l.Pairwise (· < ·)) : (del l x).Pairwise (· < ·) := by
  have e : (del l x).Sublist l := by
    unfold del
    have h1 : l.drop (at_ l x + 1) = (l.drop (at_ l x)).drop 1 := by rw [List.drop_drop]
    rw [h1]
    have h2 := List.Sublist.append (List.Sublist.refl (l.take (at_ l x))) (List.drop_sublist 1 (l.drop (at_ l x)))
    rwa [List.take_append_drop] at h2
  exact h.sublist e

/-! ### the document's way to the list of a row -/
def refList (r : R) (c : C) (k : Nat) : List Int := ((List.range k).map fun (j : Nat) => (j : Int)).filter fun n => if n = c.node then decide (c.kind ≠ 3) else r.sync.contains n
theorem refList_succ (r : R) (c : C) (k : Nat) : refList r c (k + 1) = refList r c k ++ (if (if (k : Int) = c.node then decide (c.kind ≠ 3) else r.sync.contains (k : Int)) = true then [(k : Int)] else []) := by
  unfold refList
  rw [List.range_succ, List.map_append, List.filter_append]
  congr 1
  simp only [List.map_cons, List.map_nil, List.filter_cons, List.filter_nil]
theorem refList_pair (r : R) (c : C) (k : Nat) : (refList r c k).Pairwise (· < ·) := by
  unfold refList
  refine List.Pairwise.filter _ ?_
  rw [List.pairwise_map]
  exact (List.pairwise_lt_range (n := k)).imp (fun h => by show ((_ : Nat) : Int) < ((_ : Nat) : Int); omega)
theorem refList_mem (r : R) (c : C) (k : Nat) (x : Int) : x ∈ refList r c k ↔ (0 ≤ x ∧ x < k) ∧ (if x = c.node then c.kind ≠ 3 else x ∈ r.sync) := by
  unfold refList
  rw [List.mem_filter, List.mem_map]
  constructor
  · rintro ⟨⟨j, hj, rfl⟩, h⟩
    have := List.mem_range.1 hj
    refine ⟨⟨by omega, by omega⟩, ?_⟩
    split at h
    · rename_i e; rw [if_pos e]; simpa using h
    · rename_i e; rw [if_neg e]; simpa using h
  · rintro ⟨⟨h0, h1⟩, h⟩
    refine ⟨⟨x.toNat, List.mem_range.2 (by omega), Int.toNat_of_nonneg h0⟩, ?_⟩
    split at h
    · rename_i e; rw [if_pos e]; simpa using h
    · rename_i e; rw [if_neg e]; simpa using h
theorem refList_ins {r : R} {c : C} {nodes : Nat} (h : rises nodes (-1) r.sync = true) (hk : c.kind = 2) (hn : 0 ≤ c.node ∧ c.node < nodes) (hx : ¬ c.node ∈ r.sync) : refList r c nodes = ins r.sync c.node := by
  refine rise_ext (refList_pair _ _ _) (ins_pair (rises_pair h) hx) (fun x => ?_)
  rw [refList_mem, ins_mem]
  by_cases e : x = c.node
  · rw [if_pos e, e]
    simp [hk]; omega
  · rw [if_neg e]
    constructor
    · rintro ⟨_, h⟩; exact .inr h
    · rintro (h2 | h2)
      · exact absurd h2 e
      · have := rises_mem h x h2; exact ⟨by omega, h2⟩
theorem refList_del {r : R} {c : C} {nodes : Nat} (h : rises nodes (-1) r.sync = true) (hk : c.kind = 3) (hx : c.node ∈ r.sync) : refList r c nodes = del r.sync c.node := by
  refine rise_ext (refList_pair _ _ _) (del_pair (rises_pair h)) (fun x => ?_)
  rw [refList_mem, del_mem (rises_pair h) hx]
  by_cases e : x = c.node
  · rw [if_pos e]
    simp [hk, e]
  · rw [if_neg e]
    constructor
    · rintro ⟨_, h⟩; exact ⟨h, e⟩
    · rintro ⟨h2, _⟩
      have := rises_mem h x h2; exact ⟨by omega, h2⟩

/-! ### the beginning -/
def newSync (n c s : Nat) : List Int := ((List.range n).filter fun x => decide ((x + n - s % n) % n < c)).map Int.ofNat
def newRow (n c s : Nat) : R := ⟨0, 1, (s % n : Nat), newSync n c s⟩
def new (n s c : Nat) : T := ⟨n, (List.range s).map (newRow n c)⟩
def newRaw (n c s : Nat) : List Int := (List.range c).map fun i => (((s + i) % n : Nat) : Int)
theorem raw_perm : ∀ n : Fin 6, ∀ s : Fin 8, ∀ c : Fin 6, c.1 ≤ n.1 → (newRaw n.1 c.1 s.1).isPerm (newSync n.1 c.1 s.1) = true := by decide +kernel
theorem new_right : ∀ n : Fin 6, ∀ s : Fin 8, ∀ c : Fin 6, 1 ≤ c.1 → c.1 ≤ n.1 → rightRow (newRow n.1 c.1 s.1) n.1 = true := by decide +kernel
theorem newSync_pair (n c s : Nat) : (newSync n c s).Pairwise (· < ·) := by
  unfold newSync
  rw [List.pairwise_map]
  refine List.Pairwise.imp (fun h => by show ((_ : Nat) : Int) < ((_ : Nat) : Int); omega) (List.Pairwise.filter _ (List.pairwise_lt_range (n := n)))
theorem raw_sort (n c s : Nat) (hn : n ≤ 5) (hs : s < 8) (hc : c ≤ n) : (newRaw n c s).mergeSort (fun x y => decide (x ≤ y)) = newSync n c s := by
  have h1 := raw_perm ⟨n, by omega⟩ ⟨s, hs⟩ ⟨c, by omega⟩ hc
  have h2 : (newRaw n c s).Perm (newSync n c s) := List.isPerm_iff.1 h1
  have h3 := (List.mergeSort_perm (newRaw n c s) (fun x y => decide (x ≤ y))).trans h2
  have h4 := List.pairwise_mergeSort (le := fun (x y : Int) => decide (x ≤ y)) (fun a b c h1 h2 => by simp at *; omega) (fun a b => by simp; omega) (newRaw n c s)
  refine List.Perm.eq_of_pairwise (le := fun (x y : Int) => decide (x ≤ y) = true) ?_ h4 ((newSync_pair n c s).imp (fun h => by simp; omega)) h3
  intro a b _ _ h5 h6
  simp at h5 h6
  omega
theorem new_form (n s c : Nat) (h1 : 1 ≤ n) (h5 : n ≤ 5) (s1 : 1 ≤ s) (s8 : s ≤ 8) (c1 : 1 ≤ c) (cn : c ≤ n) : form (new n s c) = true := by
  unfold form new
  simp only [Bool.and_eq_true, decide_eq_true_eq, List.length_map, List.length_range, List.all_eq_true]
  refine ⟨⟨by omega, by omega⟩, fun r hr => ?_⟩
  obtain ⟨k, hk, rfl⟩ := List.mem_map.1 hr
  have := List.mem_range.1 hk
  exact new_right ⟨n, by omega⟩ ⟨k, by omega⟩ ⟨c, by omega⟩ c1 cn
end Go.Proofs.Ytghnelfgnfhclaa.M
