/-
  Words for memory: which blocks a call may have turned ('Turned'), and a struct's block, cell by cell.
-/
import Derived.Test.YtjdkpcibdjhdoaaDoorMemB
import Derived.Laws.Rows
import Derived.Maps.Own
import Derived.Maps.OwnSet
namespace Go.Proofs.YtjdkpcibdjhdoaaDoor.Mem
open Go.RowKit

/-- of the blocks that were there none has turned but those of F -/
structure Turned (F : Nat → Prop) (w w' : World) : Prop where
  os : w'.os = w.os
  tape : w'.tape = w.tape
  output : w'.output = w.output
  size : w.heap.size ≤ w'.heap.size
  block : ∀ k, k < w.heap.size → ¬ F k → w'.heap[k]? = w.heap[k]?

/-- the blocks F', behind the call, are of F or new -/
def Spread (F F' : Nat → Prop) (w : World) : Prop := ∀ k, F' k → F k ∨ w.heap.size ≤ k

section
variable {F F' F'' : Nat → Prop} {w w' w'' : World} {g : Nat}
theorem Turned.refl (F : Nat → Prop) (w : World) : Turned F w w := ⟨rfl, rfl, rfl, Nat.le_refl _, fun _ _ _ => rfl⟩
theorem Turned.trans (h : Turned F w w') (k : Turned F w' w'') : Turned F w w'' :=
  ⟨k.os.trans h.os, k.tape.trans h.tape, k.output.trans h.output, Nat.le_trans h.size k.size, fun i hi hn => (k.block i (Nat.lt_of_lt_of_le hi h.size) hn).trans (h.block i hi hn)⟩
theorem Turned.trans' (h : Turned F w w') (s : Spread F F' w) (k : Turned F' w' w'') : Turned F w w'' :=
  ⟨k.os.trans h.os, k.tape.trans h.tape, k.output.trans h.output, Nat.le_trans h.size k.size, fun i hi hn =>
    (k.block i (Nat.lt_of_lt_of_le hi h.size) (fun hf => (s i hf).elim hn (fun hs => by omega))).trans (h.block i hi hn)⟩
theorem Spread.refl (F : Nat → Prop) (w : World) : Spread F F w := fun _ h => .inl h
theorem Spread.trans (h : Spread F F' w) (hs : w.heap.size ≤ w'.heap.size) (k : Spread F' F'' w') : Spread F F'' w := fun i hi => (k i hi).elim (h i) (fun h2 => .inr (by omega))
theorem Turned.more (h : Turned F w w') (hF : ∀ k, k < w.heap.size → F k → F' k) : Turned F' w w' := ⟨h.os, h.tape, h.output, h.size, fun k hk hn => h.block k hk (fun hf => hn (hF k hk hf))⟩
theorem Turned.below {B : Nat} (h : Turned F w w') (hB : B ≤ w.heap.size) (hF : ∀ k, F k → B ≤ k) : Below B w w' := ⟨h.os, h.tape, h.output, h.size, fun k hk => h.block k (by omega) (fun hf => by have := hF k hf; omega)⟩
theorem Turned.drew (h : Turned F w w') : Turned F w w'.drew := ⟨h.os, h.tape, h.output, h.size, h.block⟩
theorem Turned.undrew (h : Turned F w.drew w') : Turned F w w' := ⟨h.os, h.tape, h.output, h.size, h.block⟩
theorem Turned.drewN (h : Turned F w w') (n : Nat) : Turned F w (w'.drewN n) := ⟨h.os, h.tape, h.output, h.size, h.block⟩
theorem Turned.undrewN {n : Nat} (h : Turned F (w.drewN n) w') : Turned F w w' := ⟨h.os, h.tape, h.output, h.size, h.block⟩
theorem Turned.alloc (h : Turned F w w') (o : Obj) : Turned F w (w'.alloc o) :=
  h.trans ⟨rfl, rfl, rfl, by simp, fun k hk _ => Below.heap_alloc _ _ k hk⟩
theorem Turned.setCell (h : Turned F w w') {p : Addr} (hp : F p.block ∨ w.heap.size ≤ p.block) (u : Value) : Turned F w (w'.setCell p u) :=
  ⟨h.os, h.tape, h.output, by have := h.size; simpa [World.setCell] using this, fun k hk hn => (Below.heap_setCell _ _ _ _ (fun e => by subst e; rcases hp with hp | hp; exact hn hp; omega)).trans (h.block k hk hn)⟩
theorem Turned.grown {row : Option Nat} (h : Turned F w w') (hg : w'.grownBy w'' row) (hr : ∀ k, row = some k → F k ∨ w.heap.size ≤ k) : Turned F w w'' :=
  ⟨hg.os.trans h.os, hg.tape.trans h.tape, hg.output.trans h.output, Nat.le_trans h.size hg.size, fun k hk hn =>
    (hg.block k (Nat.lt_of_lt_of_le hk h.size) (fun e => (hr k e.symm).elim hn (fun h2 => by omega))).trans (h.block k hk hn)⟩
theorem Turned.of_below (h : Below w.heap.size w w') : Turned F w w' := ⟨h.os, h.tape, h.output, h.size, fun k hk _ => h.block k hk⟩
theorem Turned.grownBy (h : Turned F w w') {row : Option Nat} (hF : ∀ k, F k → some k = row) : w.grownBy w' row := ⟨h.os, h.tape, h.output, h.size, fun k hk hn => h.block k hk (fun hf => hn (hF k hf))⟩
theorem Turned.cell (h : Turned F w w') {p : Addr} (hp : p.block < w.heap.size) (hn : ¬ F p.block) : w'.cell? p = w.cell? p := World.cell?_of_block (h.block _ hp hn)

/-- what is owned, and lies outside F, stays -/
theorem Own.turned {base : Nat} {e : TypeId} {v : Value} {l : List UInt8} (h : Own w base e v l) (ht : Turned F w w') (hn : ∀ k, v.ownBlock = some k → ¬ F k) : Own w' base e v l := by
  refine ⟨h.1, ?_⟩
  rcases h.2 with h2 | ⟨g, cap, cur, rfl, hg, hh, r⟩
  · exact .inl h2
  · exact .inr ⟨g, cap, cur, rfl, hg, (ht.block g (Array.getElem?_eq_some_iff.1 hh).1 (hn g rfl)).trans hh, r⟩
/-- v[:k] -/
theorem Own.cut {base : Nat} {e : TypeId} {A : Option Addr} {n c k : Nat} {l : List UInt8} (h : Own w base e (.slice A n c) l) (hk : k ≤ n) : Own w base e (.slice A k c) (l.take k) := by
  rcases h.2 with ⟨h2, h0⟩ | ⟨g, cap, cur, h1, hg, hh, hnc, hcm, hsz, ht⟩
  · injection h2 with e1 e2 e3
    subst e1 e2 e3
    obtain rfl : k = 0 := by omega
    have : l = [] := List.eq_nil_of_length_eq_zero h0
    subst this
    exact Own.nil _ _ _
  · injection h1 with e1 e2 e3
    subst e1 e2 e3
    have hl : (l.take k).length = k := by simp; omega
    refine ⟨by simp [bcells_len], .inr ⟨g, c, cur, by rw [hl], hg, hh, by rw [hl]; omega, hcm, hsz, ?_⟩⟩
    rw [hl]
    have := congrArg (List.take k) ht
    rw [List.take_take] at this
    rw [show min k (l.length * 1) = k * 1 from by omega] at this
    rw [this]
    simp [bcells, List.map_take]

theorem cellAt {cs : Array Value} {t : TypeId} (i : Nat) (h : w.heap[g]? = some (.cells cs t (0, 0))) : w.cell? ⟨g, i, none⟩ = cs[i]? := cell_of_row w g i cs t (0, 0) h
theorem freeAt {cs : Array Value} {t : TypeId} (i : Nat) (h : w.heap[g]? = some (.cells cs t (0, 0))) : w.frozen? ⟨g, i, none⟩ = false := by simp [World.frozen?, h]
theorem heapSet {cs : Array Value} {t : TypeId} (i : Nat) (v : Value) (h : w.heap[g]? = some (.cells cs t (0, 0))) : (w.setCell ⟨g, i, none⟩ v).heap[g]? = some (.cells (cs.setIfInBounds i v) t (0, 0)) := heap_setCell_same w g i cs t v h
theorem heapLt {o : Obj} (h : w.heap[g]? = some o) : g < w.heap.size := (Array.getElem?_eq_some_iff.1 h).1
theorem heapNew (o : Obj) : (w.alloc o).heap[w.heap.size]? = some o := heap_alloc_new w o
theorem heapOld {o x : Obj} (h : w.heap[g]? = some x) : (w.alloc o).heap[g]? = some x := (Below.heap_alloc w o g (heapLt h)).trans h
theorem heapFar {x : Obj} {p : Addr} {u : Value} (h : w.heap[g]? = some x) (hn : g ≠ p.block) : (w.setCell p u).heap[g]? = some x := (Below.heap_setCell w p u g hn).trans h
end
end Go.Proofs.YtjdkpcibdjhdoaaDoor.Mem
