/-
  The document's Apply whole; what the law MetaApplies writes over.
-/
import Derived.Test.YtghnelfgnfhclaaMetaSc
import Derived.Test.YtghnelfgnfhclaaMetaN
namespace Go.Proofs.Ytghnelfgnfhclaa
open Go.RowKit Mem Go.ChangeShapes
set_option linter.unusedVariables false
set_option maxRecDepth 100000

theorem refApply_tab (A : Option Addr) (n cap : Nat) (t : M.T) (c : M.C) (w : World) (B : Nat) (hB : B ≤ w.heap.size) (h : TabIs w B A n cap t) (hn : I64 t.nodes) (hc : CmdOk c) :
    Calls Try.prog 18 #[.agg #[.int .i64 t.nodes, .slice A n cap], cval c] w (AppliedR t n c B w) := by
  have hlen := h.len
  cases hp : (M.place t c && M.turn (M.row t c) c) with
  | false =>
    refine (refApply_none t A n cap c w (h.more hB) hn hp).mono ?_
    rintro e w' ⟨rfl, hb⟩
    have hf : M.fits t c = false := by unfold M.fits; rw [hp]; rfl
    refine ⟨A, cap, by rw [hf], fun W hW => ?_, hb⟩
    rw [apply_no hf]
    exact (h.keep (fun p hp => (hW.cell (p := p) (by have := hb.size; omega) (fun e => by have := e.1; omega)).trans (hb.cell (by omega)))).more (by have := hW.size; have := hb.size; omega)
  | true =>
    rw [Bool.and_eq_true] at hp
    obtain ⟨hpl, htu⟩ := hp
    unfold M.place at hpl
    rw [Bool.and_eq_true, Bool.and_eq_true, decide_eq_true_eq, decide_eq_true_eq] at hpl
    obtain ⟨⟨hf, hs⟩, hd⟩ := hpl
    unfold M.turn M.bound at htu
    rw [decide_eq_true_eq] at htu
    obtain ⟨kind, shard, node, rev⟩ := c
    simp only at hs hd htu
    obtain ⟨k, rfl⟩ : ∃ k : Nat, shard = (k : Int) := ⟨shard.toNat, by omega⟩
    obtain ⟨d, rfl⟩ : ∃ d : Nat, node = (d : Int) := ⟨node.toNat, by omega⟩
    obtain ⟨nn, hnn⟩ : ∃ nn : Nat, t.nodes = (nn : Int) := ⟨t.nodes.toNat, by omega⟩
    have := refApply_yes t A n cap kind k d rev w B hB h hc.kind nn hnn hf (by omega) (by omega) htu.1 (by omega) htu.2.2
    rw [hnn]
    exact this

/-- behind the document's command: the other table in its box -/
structure SteppedR (wr wx : World) (g3 : Nat) (n : Int) (s : Nat) (A3 : Option Addr) (c3 : Nat) (u : M.T) : Prop where
  box : wx.heap[g3]? = some (.cells #[.int .i64 n, .slice A3 s c3] 24 (0, 0))
  tab : TabIs wx wx.heap.size A3 s c3 u
  low : wr.heap.size ≤ g3
  below : Below wr.heap.size wr wx
def AppR (t : M.T) (n : Int) (s : Nat) (c : M.C) (B : Nat) (w : World) (v : Value) (w' : World) : Prop :=
  ∃ A' c', v = .tuple #[.agg #[.int .i64 n, .slice A' s c'], .bool (M.fits t c)] ∧ (∀ W, Turned (fun q => B ≤ q ∧ q < w.heap.size) w' W → TabIs W W.heap.size A' s c' (M.apply t c)) ∧ Below w.heap.size w w'
theorem steppedR_set {wr w3 : World} {n : Int} {s : Nat} {A3 : Option Addr} {c3 : Nat} {u : M.T}
    (hz : w3.heap[wr.heap.size]? = some (.cells #[.int .i64 0, .slice none 0 0] 24 (0, 0))) (ho : ∀ W, Turned (fun q => wr.heap.size ≤ q ∧ q < (wr.alloc (.cells #[.int .i64 0, .slice none 0 0] 24)).drew.heap.size) w3 W → TabIs W W.heap.size A3 s c3 u)
    (hb : Below (wr.alloc (.cells #[.int .i64 0, .slice none 0 0] 24)).drew.heap.size (wr.alloc (.cells #[.int .i64 0, .slice none 0 0] 24)).drew w3) :
    SteppedR wr ((w3.setCell ⟨wr.heap.size, 0, none⟩ (.int .i64 n)).setCell ⟨wr.heap.size, 1, none⟩ (.slice A3 s c3)) wr.heap.size n s A3 c3 u := by
  have hs : (wr.alloc (.cells #[.int .i64 0, .slice none 0 0] 24)).drew.heap.size = wr.heap.size + 1 := by show (wr.alloc _).heap.size = _; simp
  have hb0 : Below wr.heap.size wr w3 := by
    have h := bel_alloc' wr (.cells #[.int .i64 0, .slice none 0 0] 24)
    have h2 : Below wr.heap.size wr (wr.alloc (.cells #[.int .i64 0, .slice none 0 0] 24)).drew := ⟨h.os, h.tape, h.output, h.size, h.block⟩
    exact h2.trans (hb.mono (by omega))
  refine ⟨heapSet 1 _ (heapSet 0 _ hz), ho _ ?_, Nat.le_refl _, (hb0.setCell (p := ⟨wr.heap.size, 0, none⟩) (Nat.le_refl _) _).setCell (p := ⟨wr.heap.size, 1, none⟩) (Nat.le_refl _) _⟩
  exact Turned.setCell (Turned.setCell (Turned.refl _ w3) (p := ⟨wr.heap.size, 0, none⟩) (.inl ⟨Nat.le_refl _, by rw [hs]; show wr.heap.size < _; omega⟩) _) (p := ⟨wr.heap.size, 1, none⟩) (.inl ⟨Nat.le_refl _, by rw [hs]; show wr.heap.size < _; omega⟩) _
theorem steppedR_new {wr w3 : World} {n : Int} {s : Nat} {A3 : Option Addr} {c3 : Nat} {u : M.T}
    (ho : ∀ W, Turned (fun q => wr.heap.size ≤ q ∧ q < wr.drew.heap.size) w3 W → TabIs W W.heap.size A3 s c3 u) (hb : Below wr.drew.heap.size wr.drew w3) :
    SteppedR wr (w3.alloc (.cells #[.int .i64 n, .slice A3 s c3] 24)) w3.heap.size n s A3 c3 u := by
  have hb0 : Below wr.heap.size wr w3 := ⟨hb.os, hb.tape, hb.output, hb.size, hb.block⟩
  exact ⟨heapNew (w := w3) _, ho _ ((Turned.refl _ w3).alloc _), hb0.size, hb0.trans ((bel_alloc' w3 _).mono hb0.size)⟩

/-- the numbers of the rows xs are written over: all else is as it was -/
structure Wiped (wa wz : World) (xs : List X) : Prop where
  turned : Turned (fun q => ∃ x ∈ xs, x.sl.ownBlock = some q) wa wz
  rows : ∀ x ∈ xs, 0 < x.n → ∃ g cur, x.a = some ⟨g, 0, none⟩ ∧ wz.heap[g]? = some (.cells cur 3 (0, 0)) ∧ ∀ j, j < x.n → ∃ z : Int, cur[j]? = some (.int .i64 z)
theorem Wiped.start {wa : World} {base : Nat} {v : Value} {xs : List X} (h : OwnXs wa base v xs) : Wiped wa wa xs := by
  refine ⟨Turned.refl _ _, fun x hx hn => ?_⟩
  have hs := h.sl x hx
  have hl : x.n = x.r.sync.length := by obtain ⟨_, _, e, _⟩ := hs.form; injection e with _ e; rw [ints_len] at e; exact e
  rcases hs.2 with ⟨e, h0⟩ | ⟨g, cap, cur, e, hg, hh, hnc, hcm, hcs, hct⟩
  · injection e with _ e2; omega
  · injection e with e1 e2 e3
    refine ⟨g, cur, e1, hh, fun j hj => ?_⟩
    have hjl : j < x.r.sync.length := by omega
    refine ⟨x.r.sync[j], ?_⟩
    have h1 := ints_at hjl
    rw [← hct, Nat.mul_one, List.getElem?_take] at h1
    rw [ints_len, if_pos hjl] at h1
    simpa using h1
theorem Wiped.at_ {wa wz : World} {xs : List X} (h : Wiped wa wz xs) {x : X} (hx : x ∈ xs) {j : Nat} (hj : j < x.n) :
    ∃ g, x.a = some ⟨g, 0, none⟩ ∧ (∃ z : Int, wz.cell? ⟨g, j, none⟩ = some (.int .i64 z)) ∧ wz.frozen? ⟨g, j, none⟩ = false ∧ Wiped wa (wz.setCell ⟨g, j, none⟩ (.int .i64 (-1))) xs := by
  obtain ⟨g, cur, e, hh, hc⟩ := h.rows x hx (by omega)
  obtain ⟨z, hz⟩ := hc j hj
  refine ⟨g, e, ⟨z, (cellAt j hh).trans hz⟩, freeAt j hh, ?_, fun y hy hn => ?_⟩
  · exact h.turned.setCell (p := ⟨g, j, none⟩) (.inl ⟨x, hx, by show (Value.slice x.a x.n x.c).ownBlock = _; rw [e]; rfl⟩) _
  · obtain ⟨g2, cur2, e2, hh2, hc2⟩ := h.rows y hy hn
    by_cases hg : g2 = g
    · subst hg
      rw [hh] at hh2
      injection hh2 with hh2
      injection hh2 with hh2
      subst hh2
      refine ⟨g2, _, e2, heapSet j _ hh, fun i hi => ?_⟩
      obtain ⟨z2, hz2⟩ := hc2 i hi
      rw [Array.getElem?_setIfInBounds]
      by_cases hij : j = i
      · subst hij
        rw [if_pos rfl, if_pos (Array.getElem?_eq_some_iff.1 hz2).1]
        exact ⟨-1, rfl⟩
      · rw [if_neg hij]
        exact ⟨z2, hz2⟩
    · exact ⟨g2, cur2, e2, heapFar hh2 (by show g2 ≠ g; exact hg), hc2⟩

/-- the table of the round in its box -/
structure UBox (w0 wr : World) (g : Nat) (nz : Int) (s : Nat) (A : Option Addr) (cap : Nat) (t : M.T) : Prop where
  box : wr.heap[g]? = some (.cells #[.int .i64 nz, .slice A s cap] 24 (0, 0))
  tab : TabIs wr wr.heap.size A s cap t
  nodes : t.nodes = nz
  fit : FitT t
  low : w0.heap.size ≤ g
  below : Below w0.heap.size w0 wr
end Go.Proofs.Ytghnelfgnfhclaa
