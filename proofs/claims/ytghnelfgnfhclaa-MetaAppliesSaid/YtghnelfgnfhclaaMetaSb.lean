/-
  The document's Apply where the place and the turn are right: helpers.
-/
import Derived.Test.YtghnelfgnfhclaaMetaS
namespace Go.Proofs.Ytghnelfgnfhclaa
open Go.RowKit Mem Go.ChangeShapes
set_option linter.unusedVariables false
set_option maxRecDepth 100000

/-- a row of four cells written into a block of rows -/
def put4 (w : World) (g k : Nat) (y : X) : World :=
  (((w.setCell ⟨g, k * 4, none⟩ (.int .u64 (y.r.rev : Int))).setCell ⟨g, k * 4 + 1, none⟩ (.int .u64 (y.r.term : Int))).setCell ⟨g, k * 4 + 2, none⟩ (.int .i64 y.r.prim)).setCell ⟨g, k * 4 + 3, none⟩ (.slice y.a y.n y.c)
theorem put4_cells {w : World} {g k : Nat} {cur : Array Value} {xs : List X} (y : X) (hh : w.heap[g]? = some (.cells cur 42 (0, 0))) (hc : ∀ (j : Nat) (u : Value), (xcells xs)[j]? = some u → cur[j]? = some u) (hk : k < xs.length) :
    ∀ i (hi : i < (xs.set k y).length), At4 (put4 w g k y) g 0 i ((xs.set k y)[i]) := by
  intro i hi
  have hix : i < xs.length := by simpa using hi
  have H := heapSet (k * 4 + 3) (.slice y.a y.n y.c) (heapSet (k * 4 + 2) (.int .i64 y.r.prim) (heapSet (k * 4 + 1) (.int .u64 (y.r.term : Int)) (heapSet (k * 4) (.int .u64 (y.r.rev : Int)) hh)))
  obtain ⟨a0, a1, a2, a3⟩ := xcells_at hix
  obtain ⟨b0, b1, b2, b3⟩ := xcells_at hk
  have s3 : k * 4 + 3 < cur.size := (Array.getElem?_eq_some_iff.1 (hc _ _ b3)).1
  have e : (xs.set k y)[i] = if k = i then y else xs[i] := List.getElem_set ..
  rw [e]
  have key : ∀ j, (put4 w g k y).cell? ⟨g, 0 + i * 4 + j, none⟩ = ((((cur.setIfInBounds (k * 4) (.int .u64 (y.r.rev : Int))).setIfInBounds (k * 4 + 1) (.int .u64 (y.r.term : Int))).setIfInBounds (k * 4 + 2) (.int .i64 y.r.prim)).setIfInBounds (k * 4 + 3) (.slice y.a y.n y.c))[i * 4 + j]? := fun j => by
    rw [Nat.zero_add]
    exact cellAt _ H
  by_cases hik : k = i
  · subst hik
    rw [if_pos rfl]
    refine ⟨(key 0).trans ?_, (key 1).trans ?_, (key 2).trans ?_, (key 3).trans ?_⟩
    all_goals
      simp only [Array.getElem?_setIfInBounds, Array.size_setIfInBounds]
      repeat (first | rw [if_pos trivial] | rw [if_pos (by omega)] | rw [if_neg (by omega)])
  · rw [if_neg hik]
    refine ⟨(key 0).trans ?_, (key 1).trans ?_, (key 2).trans ?_, (key 3).trans ?_⟩
    all_goals
      simp only [Array.getElem?_setIfInBounds, Array.size_setIfInBounds]
      repeat (rw [if_neg (by omega)])
    · exact hc _ _ a0
    · exact hc _ _ a1
    · exact hc _ _ a2
    · exact hc _ _ a3

/-- the boxes, the row and the list so far -/
structure RefL (w0 wr : World) (r : Nat) (nz : Int) (A : Option Addr) (n cp : Nat) (K sh nd : Int) (rev : Nat) (x : X) (u : Value) (l : List Int) : Prop where
  tab : wr.heap[w0.heap.size]? = some (.cells #[.int .i64 nz, .slice A n cp] 24 (0, 0))
  cmd : wr.heap[w0.heap.size + 1]? = some (.cells #[.int .u8 K, .int .i64 sh, .int .i64 nd, .int .u64 (rev : Int)] 39 (0, 0))
  res : wr.heap[w0.heap.size + 1 + 1]? = some (.cells #[.int .i64 0, .slice none 0 0] 24 (0, 0))
  row : wr.heap[r]? = some (.cells #[.int .u64 (x.r.rev : Int), .int .u64 (x.r.term : Int), .int .i64 x.r.prim, .slice x.a x.n x.c] 42 (0, 0))
  own : OwnV wr w0.heap.size 3 u (ints l)
  below : Below w0.heap.size w0 wr
section
variable {w0 wr wi w8 : World} {r n cp rev : Nat} {nz K sh nd : Int} {A : Option Addr} {x : X} {u : Value} {l : List Int}
theorem RefL.on (h : RefL w0 wr r nz A n cp K sh nd rev x u l) (hb : Below wr.heap.size wr wi) : RefL w0 wi r nz A n cp K sh nd rev x u l :=
  ⟨(hb.block _ (heapLt h.tab)).trans h.tab, (hb.block _ (heapLt h.cmd)).trans h.cmd, (hb.block _ (heapLt h.res)).trans h.res, (hb.block _ (heapLt h.row)).trans h.row, h.own.below hb, h.below.trans (hb.mono h.below.size)⟩
theorem RefL.app (h : RefL w0 wi r nz A n cp K sh nd rev x u l) {k : Int} {o : Obj} {v8 : Value} (hown : w8.ownsRow w0.heap.size 3 1 v8 (l.length + 1) (ints l ++ [.int .i64 k])) (hg : (wi.alloc o).grownBy w8 u.ownBlock) : RefL w0 w8 r nz A n cp K sh nd rev x v8 (l ++ [k]) := by
  have keep : ∀ {g : Nat} {cs : Array Value} {e : TypeId}, wi.heap[g]? = some (.cells cs e (0, 0)) → 3 ≠ e → w8.heap[g]? = some (.cells cs e (0, 0)) := fun {g cs e} hh hne => by
    have hq := block_ne h.own hh hne
    exact (hg.block g (by have := heapLt hh; simp; omega) (fun e => hq e.symm)).trans (heapOld hh)
  refine ⟨keep h.tab (by decide), keep h.cmd (by decide), keep h.res (by decide), keep h.row (by decide), ?_, ?_⟩
  · unfold OwnV
    rw [show ints (l ++ [k]) = ints l ++ [.int .i64 k] from by simp, List.length_append, ints_len]
    exact hown
  · exact (h.below.alloc h.below.size o).grown hg (by have := h.below.size; simp; omega) (fun q hq => (World.ownsRow.lt h.own q hq).1)
end
end Go.Proofs.Ytghnelfgnfhclaa
