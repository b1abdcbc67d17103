/-
  Mathematics of a planned move that is done by three commands: each is done, the loads even out, and so there are at most 40 moves.
-/
import Derived.Test.YtghnelfgnfhclaaMetaPm
import Derived.Test.YtghnelfgnfhclaaMetaM
namespace Go.Proofs.Ytghnelfgnfhclaa
set_option linter.unusedVariables false

def rowAt (t : M.T) (s : Nat) : M.R := (t.rows[s]?).getD ⟨0, 0, 0, []⟩
theorem rowAt_eq {t : M.T} {s : Nat} (h : s < t.rows.length) : rowAt t s = t.rows[s] := by
  unfold rowAt; rw [List.getElem?_eq_getElem h]; rfl
/-- the command of that kind on row s as it is -/
def cmdOn (t : M.T) (s : Nat) (kind : Nat) (node : Nat) : M.C := ⟨kind, (s : Int), (node : Int), (rowAt t s).rev⟩
/-- no count of a row has come further -/
def Small (k : Nat) (t : M.T) : Prop := ∀ r ∈ t.rows, r.rev ≤ k ∧ r.term ≤ k
theorem Small.more {k k' : Nat} {t : M.T} (h : Small k t) (hk : k ≤ k') : Small k' t := fun r hr => by have := h r hr; omega
theorem next_small (r : M.R) (c : M.C) (k : Nat) (h : r.rev ≤ k ∧ r.term ≤ k) : (M.next r c).rev ≤ k + 1 ∧ (M.next r c).term ≤ k + 1 := by
  unfold M.next
  split <;> (try simp only) <;> omega
theorem apply_small {k : Nat} {t : M.T} (c : M.C) (h : Small k t) : Small (k + 1) (M.apply t c) := by
  unfold M.apply
  split
  · rename_i hf
    intro r hr
    obtain ⟨_, ⟨s, hs, hsl⟩, _, _, _⟩ := fits_yes hf
    rcases List.mem_or_eq_of_mem_set hr with hr | rfl
    · have := h r hr; omega
    · exact next_small _ _ _ (h _ (row_mem hs hsl).2)
  · exact h.more (by omega)
theorem on_fits {t : M.T} {s kind node k : Nat} (hf : M.form t = true) (hs : s < t.rows.length) (hn : (node : Int) < t.nodes) (hk : Small k t) (hkb : k < 1000000) (hd : M.does (rowAt t s) (cmdOn t s kind node) = true) : M.fits t (cmdOn t s kind node) = true := by
  have hr : M.row t (cmdOn t s kind node) = rowAt t s := by unfold M.row rowAt cmdOn; simp only [Int.toNat_natCast]
  have hsm := hk (rowAt t s) (by rw [rowAt_eq hs]; exact List.getElem_mem hs)
  unfold M.fits M.place M.turn M.bound
  rw [hr, hd, hf]
  simp only [Bool.true_and, Bool.and_true, Bool.and_eq_true, decide_eq_true_eq]
  refine ⟨⟨⟨?_, ?_⟩, ?_, ?_⟩, ?_, ?_, ?_⟩
  · show (0 : Int) ≤ (s : Int); omega
  · show (s : Int) < _; omega
  · show (0 : Int) ≤ (node : Int); omega
  · exact hn
  · rfl
  · omega
  · omega
theorem on_apply {t : M.T} {s kind node : Nat} (hf : M.fits t (cmdOn t s kind node) = true) (hs : s < t.rows.length) :
    (M.apply t (cmdOn t s kind node)).rows = t.rows.set s (M.next (rowAt t s) (cmdOn t s kind node)) ∧ rowAt (M.apply t (cmdOn t s kind node)) s = M.next (rowAt t s) (cmdOn t s kind node) := by
  have hr : M.row t (cmdOn t s kind node) = rowAt t s := by unfold M.row rowAt cmdOn; simp only [Int.toNat_natCast]
  have h1 : (M.apply t (cmdOn t s kind node)).rows = t.rows.set s (M.next (rowAt t s) (cmdOn t s kind node)) := by
    unfold M.apply
    rw [if_pos hf, hr]
    show t.rows.set ((s : Int).toNat) _ = _
    rw [Int.toNat_natCast]
  refine ⟨h1, ?_⟩
  unfold rowAt
  rw [h1, List.getElem?_set, if_pos rfl, if_pos hs]
  rfl

def ev1 (t : M.T) : M.T := M.apply t (cmdOn t (M.which t) 2 (M.to_ t))
/-- the second command, if it is wanted -/
def ev2 (t : M.T) : M.T := if (rowAt (ev1 t) (M.which t)).prim = (M.from_ t : Int) then M.apply (ev1 t) (cmdOn (ev1 t) (M.which t) 1 (M.to_ t)) else ev1 t
def ev3 (t : M.T) : M.T := M.apply (ev2 t) (cmdOn (ev2 t) (M.which t) 3 (M.from_ t))
structure Even (k : Nat) (t : M.T) : Prop where
  s : M.which t < t.rows.length
  from_ : (M.from_ t : Int) < t.nodes
  to_ : (M.to_ t : Int) < t.nodes
  fits1 : M.fits t (cmdOn t (M.which t) 2 (M.to_ t)) = true
  len1 : (ev1 t).rows.length = t.rows.length
  fits2 : (rowAt (ev1 t) (M.which t)).prim = (M.from_ t : Int) → M.fits (ev1 t) (cmdOn (ev1 t) (M.which t) 1 (M.to_ t)) = true
  len2 : (ev2 t).rows.length = t.rows.length
  fits3 : M.fits (ev2 t) (cmdOn (ev2 t) (M.which t) 3 (M.from_ t)) = true
  form : M.form (ev3 t) = true
  nodes1 : (ev1 t).nodes = t.nodes
  nodes2 : (ev2 t).nodes = t.nodes
  nodes : (ev3 t).nodes = t.nodes
  len : (ev3 t).rows.length = t.rows.length
  small1 : Small (k + 1) (ev1 t)
  small2 : Small (k + 2) (ev2 t)
  small : Small (k + 3) (ev3 t)
  falls : M.pot (ev3 t) + 10 ≤ M.pot t

theorem even_of {t : M.T} {k : Nat} (hm : M.moves t = true) (hk : Small k t) (hkb : k < 999990) : Even k t := by
  have hs := M.which_lt hm
  have hmv := M.which_row hs
  have hm2 := hm
  unfold M.moves at hm2
  rw [Bool.and_eq_true, decide_eq_true_eq] at hm2
  obtain ⟨hf, hdiff⟩ := hm2
  obtain ⟨hn1, hn5, hr1, hr8⟩ := M.form_nodes hf
  have hfl := M.from_lt hn1
  have htl := M.to_lt hn1
  have hfrom : (M.from_ t : Int) < t.nodes := by omega
  have hto : (M.to_ t : Int) < t.nodes := by omega
  rw [M.loads_at t hfl, M.loads_at t htl] at hdiff
  unfold M.mayMove at hmv
  rw [Bool.and_eq_true] at hmv
  obtain ⟨hin, hout⟩ := hmv
  rw [← rowAt_eq hs] at hin hout
  have hrise : M.rises t.nodes (-1) (rowAt t (M.which t)).sync = true := (form_row hf (by rw [rowAt_eq hs]; exact List.getElem_mem hs)).1
  have hf1 : M.fits t (cmdOn t (M.which t) 2 (M.to_ t)) = true := on_fits hf hs hto hk (by omega) (by unfold M.does cmdOn; exact hout)
  obtain ⟨a1, a2⟩ := on_apply hf1 hs
  have hl1 : (ev1 t).rows.length = t.rows.length := by unfold ev1; rw [a1, List.length_set]
  have hn1' : (ev1 t).nodes = t.nodes := by unfold ev1; rw [apply_nodes]
  have hfm1 : M.form (ev1 t) = true := apply_form hf
  have hsm1 : Small (k + 1) (ev1 t) := apply_small _ hk
  have hs1 : M.which t < (ev1 t).rows.length := by omega
  have hsync1 : (rowAt (ev1 t) (M.which t)).sync = M.ins (rowAt t (M.which t)).sync (M.to_ t : Int) := by unfold ev1; rw [a2]; unfold M.next cmdOn; rfl
  have hout' : ¬ (M.to_ t : Int) ∈ (rowAt t (M.which t)).sync := by simpa using hout
  have hin' : (M.from_ t : Int) ∈ (rowAt t (M.which t)).sync := by simpa using hin
  have hne : (M.from_ t : Int) ≠ (M.to_ t : Int) := fun e => hout' (e ▸ hin')
  have hf2 : (rowAt (ev1 t) (M.which t)).prim = (M.from_ t : Int) → M.fits (ev1 t) (cmdOn (ev1 t) (M.which t) 1 (M.to_ t)) = true := fun _ =>
    on_fits hfm1 hs1 (by rw [hn1']; exact hto) hsm1 (by omega) (by
      unfold M.does cmdOn
      show (rowAt (ev1 t) (M.which t)).sync.contains (M.to_ t : Int) = true
      rw [hsync1, List.contains_iff_mem]
      exact (M.ins_mem _ _ _).2 (.inl rfl))
  have h2 : (ev2 t).rows.length = t.rows.length ∧ (ev2 t).nodes = t.nodes ∧ M.form (ev2 t) = true ∧ Small (k + 2) (ev2 t) ∧ (rowAt (ev2 t) (M.which t)).sync = M.ins (rowAt t (M.which t)).sync (M.to_ t : Int) ∧ (rowAt (ev2 t) (M.which t)).prim ≠ (M.from_ t : Int) ∧ (ev2 t).rows = (t.rows.set (M.which t) (rowAt (ev2 t) (M.which t))) := by
    unfold ev2
    by_cases hp : (rowAt (ev1 t) (M.which t)).prim = (M.from_ t : Int)
    · rw [if_pos hp]
      obtain ⟨b1, b2⟩ := on_apply (hf2 hp) hs1
      refine ⟨by rw [b1, List.length_set, hl1], by rw [apply_nodes, hn1'], apply_form hfm1, apply_small _ hsm1, ?_, ?_, ?_⟩
      · rw [b2, ← hsync1]; unfold M.next cmdOn; rfl
      · rw [b2]; unfold M.next cmdOn; exact fun e => hne e.symm
      · rw [b2, b1]
        unfold ev1
        rw [a1, List.set_set]
    · rw [if_neg hp]
      refine ⟨hl1, hn1', hfm1, hsm1.more (by omega), hsync1, hp, ?_⟩
      unfold ev1
      rw [a2, a1]
  obtain ⟨hl2, hn2, hfm2, hsm2, hsync2, hprim2, hrows2⟩ := h2
  have hs2 : M.which t < (ev2 t).rows.length := by omega
  have hf3 : M.fits (ev2 t) (cmdOn (ev2 t) (M.which t) 3 (M.from_ t)) = true := on_fits hfm2 hs2 (by rw [hn2]; exact hfrom) hsm2 (by omega) (by
    unfold M.does cmdOn
    show ((rowAt (ev2 t) (M.which t)).sync.contains (M.from_ t : Int) && decide ((M.from_ t : Int) ≠ (rowAt (ev2 t) (M.which t)).prim)) = true
    rw [hsync2, Bool.and_eq_true, List.contains_iff_mem, decide_eq_true_eq]
    exact ⟨(M.ins_mem _ _ _).2 (.inr hin'), fun e => hprim2 e.symm⟩)
  obtain ⟨c1, c2⟩ := on_apply hf3 hs2
  have hsync3 : (rowAt (ev3 t) (M.which t)).sync = M.del (M.ins (rowAt t (M.which t)).sync (M.to_ t : Int)) (M.from_ t : Int) := by unfold ev3; rw [c2, ← hsync2]; unfold M.next cmdOn; rfl
  have hrows3 : (ev3 t).rows = t.rows.set (M.which t) (rowAt (ev3 t) (M.which t)) := by
    unfold ev3
    rw [c2, c1, hrows2, List.set_set]
  have hload : ∀ j : Nat, M.load (ev3 t) j = M.bump (M.from_ t) (M.to_ t) j (M.load t j) := by
    intro j
    unfold M.load M.bump
    rw [hrows3, M.cnt_set hs, hsync3, ← rowAt_eq hs]
    have hmem := M.del_mem (M.ins_pair (M.rises_pair hrise) hout') ((M.ins_mem _ _ _).2 (.inr hin')) (j : Int)
    rw [M.ins_mem] at hmem
    by_cases e1 : j = M.from_ t
    · subst e1
      have h3 : ¬ (M.from_ t : Int) ∈ M.del (M.ins (rowAt t (M.which t)).sync (M.to_ t : Int)) (M.from_ t : Int) := fun h => (hmem.1 h).2 rfl
      have h4 : (M.del (M.ins (rowAt t (M.which t)).sync (M.to_ t : Int)) (M.from_ t : Int)).contains (M.from_ t : Int) = false := by simpa using h3
      rw [hin, h4, if_pos rfl, if_pos rfl, if_neg (by simp), if_neg (by omega)]
    · by_cases e2 : j = M.to_ t
      · subst e2
        have h3 : (M.to_ t : Int) ∈ M.del (M.ins (rowAt t (M.which t)).sync (M.to_ t : Int)) (M.from_ t : Int) := hmem.2 ⟨.inl rfl, fun e => hne e.symm⟩
        have h4 : (M.del (M.ins (rowAt t (M.which t)).sync (M.to_ t : Int)) (M.from_ t : Int)).contains (M.to_ t : Int) = true := by simpa using h3
        have h5 : (rowAt t (M.which t)).sync.contains (M.to_ t : Int) = false := by simpa using hout'
        rw [h5, h4, if_neg (by simp), if_pos rfl, if_neg e1, if_pos rfl]
      · have h3 : (M.del (M.ins (rowAt t (M.which t)).sync (M.to_ t : Int)) (M.from_ t : Int)).contains (j : Int) = (rowAt t (M.which t)).sync.contains (j : Int) := by
          rw [Bool.eq_iff_iff, List.contains_iff_mem, List.contains_iff_mem, hmem]
          constructor
          · rintro ⟨h | h, _⟩
            · omega
            · exact h
          · intro h
            exact ⟨.inr h, by omega⟩
        rw [h3, if_neg e1, if_neg e2]
        split <;> omega
  have hpot : M.pot (ev3 t) + 10 ≤ M.pot t := by
    unfold M.pot
    rw [hload, hload, hload, hload, hload]
    exact M.phi_bump (M.from_ t) (M.to_ t) (by omega) (by omega) (M.load t) (by unfold M.load; omega)
  exact ⟨hs, hfrom, hto, hf1, hl1, hf2, hl2, hf3, apply_form hfm2, hn1', hn2, by unfold ev3; rw [apply_nodes, hn2], by unfold ev3; rw [apply_len, hl2], hsm1, hsm2, apply_small _ hsm2, hpot⟩
end Go.Proofs.Ytghnelfgnfhclaa
