/-
  A row of a table of the call's own is changed: its numbers, its slice.
-/
import Derived.Test.YtghnelfgnfhclaaMetaG
namespace Go.Proofs.Ytghnelfgnfhclaa
open Go.RowKit Mem Go.ChangeShapes
set_option linter.unusedVariables false
set_option maxRecDepth 100000

theorem xcells_put {xs : List X} {k j : Nat} {x y : X} {u : Value} (hk : k < xs.length) (hx : xs[k] = x) (hj : j < 4) (hy : X.cells y = (X.cells x).set j u) : (xcells xs).set (k * 4 + j) u = xcells (xs.set k y) := by
  have e0 : xs = xs.take k ++ x :: xs.drop (k + 1) := by rw [← hx, ← List.drop_eq_getElem_cons hk, List.take_append_drop]
  have e1 : xcells xs = xcells (xs.take k) ++ (X.cells x ++ xcells (xs.drop (k + 1))) := by
    conv => lhs; rw [e0]
    simp [xcells]
  have e2 : xs.set k y = xs.take k ++ y :: xs.drop (k + 1) := by rw [List.set_eq_take_append_cons_drop, if_pos hk]
  have e3 : (xcells (xs.take k)).length = k * 4 := by rw [xcells_len, List.length_take, Nat.min_eq_left (by omega)]
  rw [e1, e2, List.set_append_right _ _ (by omega), e3, Nat.add_sub_cancel_left, List.set_append_left _ _ (by simp [X.cells]; omega), ← hy]
  simp [xcells]
theorem OwnXs.block {w : World} {base n c g : Nat} {xs : List X} (h : OwnXs w base (.slice (some ⟨g, 0, none⟩) n c) xs) : n = xs.length ∧ base ≤ g ∧ ∃ cur, w.heap[g]? = some (.cells cur 42 (0, 0)) := by
  rcases h.row.2 with ⟨h1, _⟩ | ⟨g', cap, cur, h1, hg, hh2, _⟩
  · cases h1
  · injection h1 with h1 h2 _
    injection h1 with h1
    injection h1 with h1 _ _
    subst h1
    exact ⟨h2, hg, cur, hh2⟩
theorem OwnXs.some_ {w : World} {base n c : Nat} {A : Option Addr} {xs : List X} (h : OwnXs w base (.slice A n c) xs) (hn : 0 < n) : ∃ g, A = some ⟨g, 0, none⟩ := by
  rcases h.row.2 with ⟨h1, _⟩ | ⟨g', cap, cur, h1, hg, hh2, _⟩
  · injection h1 with _ h2 _; omega
  · injection h1 with h1 _ _
    exact ⟨g', h1⟩
theorem OwnXs.ne {w : World} {base n c g : Nat} {xs : List X} (h : OwnXs w base (.slice (some ⟨g, 0, none⟩) n c) xs) : ∀ x ∈ xs, x.sl.ownBlock ≠ some g := by
  obtain ⟨_, _, cur, hc⟩ := h.block
  exact fun x hx => block_ne (h.sl x hx) hc (by decide)
/-- what lies elsewhere has turned -/
theorem OwnXs.turned {w w' : World} {F : Nat → Prop} {base : Nat} {v : Value} {xs : List X} (h : OwnXs w base v xs) (ht : Turned F w w') (hv : ∀ k, v.ownBlock = some k → ¬ F k) (hx : ∀ x ∈ xs, ∀ k, x.sl.ownBlock = some k → ¬ F k) : OwnXs w' base v xs :=
  ⟨row_turned h.row ht hv, fun x hm => (h.sl x hm).turned ht (hx x hm), h.apart⟩
theorem OwnXs.less {w : World} {base b' : Nat} {v : Value} {xs : List X} (h : OwnXs w base v xs) (hb : b' ≤ base) : OwnXs w b' v xs := by
  refine ⟨?_, fun x hx => OwnV.less (h.sl x hx) hb, h.apart⟩
  refine ⟨h.row.1, ?_⟩
  rcases h.row.2 with h2 | ⟨g, cap, cur, hv, hg, r⟩
  · exact .inl h2
  · exact .inr ⟨g, cap, cur, hv, by omega, r⟩
theorem apart_set {xs : List X} {k : Nat} {y : X} (h : Apart xs) (hy : ∀ i (hi : i < xs.length), i ≠ k → ∀ b, xs[i].sl.ownBlock = some b → y.sl.ownBlock ≠ some b) : Apart (xs.set k y) := by
  unfold Apart at *
  rw [List.pairwise_iff_getElem] at h ⊢
  intro i j hi hj hij b hb
  rw [List.length_set] at hi hj
  rw [List.getElem_set] at hb ⊢
  by_cases e1 : k = i
  · rw [if_pos e1] at hb
    rw [if_neg (by omega)]
    intro hc
    exact hy j hj (by omega) b hc hb
  · rw [if_neg e1] at hb
    by_cases e2 : k = j
    · rw [if_pos e2]
      exact hy i hi (by omega) b hb
    · rw [if_neg e2]
      exact h i j hi hj hij b hb
/-- a number of row k is written over -/
theorem OwnXs.put {w : World} {base n c g k j : Nat} {xs : List X} {y : X} {u : Value} (h : OwnXs w base (.slice (some ⟨g, 0, none⟩) n c) xs) (hk : k < xs.length) (hj : j < 4) (hy : X.cells y = (X.cells xs[k]).set j u) (hs : y.sl = xs[k].sl) (hr : y.r.sync = xs[k].r.sync) :
    OwnXs (w.setCell ⟨g, k * 4 + j, none⟩ u) base (.slice (some ⟨g, 0, none⟩) n c) (xs.set k y) := by
  obtain ⟨hn, _, cur, hc⟩ := h.block
  have hne := h.ne
  have hrow := h.row
  rw [← hn] at hrow
  have hst := (World.ownsRow.stored hrow (k * 4 + j) u).1
  rw [xcells_put hk rfl hj hy] at hst
  have hT : Turned (· = g) w (w.setCell ⟨g, k * 4 + j, none⟩ u) := Turned.setCell (F := (· = g)) (Turned.refl _ w) (p := ⟨g, k * 4 + j, none⟩) (.inl rfl) _
  refine ⟨by rw [List.length_set, ← hn]; exact hst, fun x hx => ?_, apart_set h.apart (fun i hi hik b hb => ?_)⟩
  · rcases List.mem_or_eq_of_mem_set hx with hx | rfl
    · exact (h.sl x hx).turned hT (fun q hq e => hne x hx (by rw [hq, e]))
    · rw [hs, hr]
      exact (h.sl _ (List.getElem_mem hk)).turned hT (fun q hq e => hne _ (List.getElem_mem hk) (by rw [hq, e]))
  · rw [hs]
    intro hb2
    have hp := List.pairwise_iff_getElem.1 h.apart
    rcases Nat.lt_or_gt_of_ne hik with hl | hl
    · exact hp i k hi hk hl b hb hb2
    · exact hp k i hk hi hl b hb2 hb
/-- the slice of row k has been made anew, and is laid into its cell -/
theorem OwnXs.reslice {w w2 : World} {base n c g k gx : Nat} {xs : List X} {y : X} (h : OwnXs w base (.slice (some ⟨g, 0, none⟩) n c) xs) (hk : k < xs.length) (hgx : xs[k].sl.ownBlock = some gx) (ht : Turned (· = gx) w w2)
    (ho : OwnV w2 base 3 y.sl (ints y.r.sync)) (hb : y.sl.ownBlock = some gx ∨ ∃ q, y.sl.ownBlock = some q ∧ w.heap.size ≤ q) (hy : X.cells y = (X.cells xs[k]).set 3 y.sl) :
    OwnXs (w2.setCell ⟨g, k * 4 + 3, none⟩ y.sl) base (.slice (some ⟨g, 0, none⟩) n c) (xs.set k y) := by
  obtain ⟨hn, _, cur, hc⟩ := h.block
  have hne := h.ne
  have hp := List.pairwise_iff_getElem.1 h.apart
  have hggx : g ≠ gx := fun e => hne _ (List.getElem_mem hk) (by rw [hgx, e])
  have hrow2 : w2.ownsRow base 42 4 (.slice (some ⟨g, 0, none⟩) n c) n (xcells xs) := by
    have := row_turned h.row ht (fun q hq e => hggx ((Option.some.inj hq).trans e))
    rwa [← hn] at this
  have hst := (World.ownsRow.stored hrow2 (k * 4 + 3) y.sl).1
  rw [xcells_put hk rfl (by omega) hy] at hst
  have hT : Turned (· = g) w2 (w2.setCell ⟨g, k * 4 + 3, none⟩ y.sl) := Turned.setCell (F := (· = g)) (Turned.refl _ w2) (p := ⟨g, k * 4 + 3, none⟩) (.inl rfl) _
  have hgl : g < w.heap.size := heapLt hc
  have hother : ∀ i (hi : i < xs.length), i ≠ k → xs[i].sl.ownBlock ≠ some gx := fun i hi hik hb2 => by
    rcases Nat.lt_or_gt_of_ne hik with hl | hl
    · exact hp i k hi hk hl gx hb2 hgx
    · exact hp k i hk hi hl gx hgx hb2
  refine ⟨by rw [List.length_set, ← hn]; exact hst, fun x hx => ?_, apart_set h.apart (fun i hi hik b hb2 => ?_)⟩
  · obtain ⟨i, hi, hxi⟩ := List.getElem_of_mem hx
    rw [List.length_set] at hi
    rw [List.getElem_set] at hxi
    by_cases e : k = i
    · rw [if_pos e] at hxi
      subst hxi
      refine ho.turned hT (fun q hq e2 => ?_)
      rcases hb with hb | ⟨q2, hb, hq2⟩
      · rw [hb] at hq; injection hq with hq; omega
      · rw [hb] at hq; injection hq with hq; omega
    · rw [if_neg e] at hxi
      subst hxi
      have h1 := (h.sl _ (List.getElem_mem hi)).turned ht (fun q hq e2 => hother i hi (by omega) (by rw [hq, e2]))
      exact h1.turned hT (fun q hq e2 => hne _ (List.getElem_mem hi) (by rw [hq, e2]))
  · rcases hb with hb | ⟨q2, hb, hq2⟩
    · rw [hb]
      intro e
      injection e with e
      exact hother i hi hik (by rw [hb2, e])
    · rw [hb]
      intro e
      injection e with e
      have := ((h.sl _ (List.getElem_mem hi)).lt b hb2).2
      omega
end Go.Proofs.Ytghnelfgnfhclaa
