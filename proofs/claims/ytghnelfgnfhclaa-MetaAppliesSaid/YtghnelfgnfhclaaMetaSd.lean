/-
  The end of the document's Apply: states and what they come to.
-/
import Derived.Test.YtghnelfgnfhclaaMetaSb
namespace Go.Proofs.Ytghnelfgnfhclaa
open Go.RowKit Mem Go.ChangeShapes
set_option linter.unusedVariables false
set_option maxRecDepth 100000

theorem TabIs.more {w : World} {B B' n c : Nat} {A : Option Addr} {t : M.T} (h : TabIs w B A n c t) (hB : B ≤ B') : TabIs w B' A n c t := by
  obtain ⟨xs, hx, e⟩ := h
  exact ⟨xs, hx.more hB, e⟩
theorem TabIs.keep {w w' : World} {B n c : Nat} {A : Option Addr} {t : M.T} (h : TabIs w B A n c t) (hk : ∀ p : Addr, p.block < B → w'.cell? p = w.cell? p) : TabIs w' B A n c t := by
  obtain ⟨xs, hx, e⟩ := h
  exact ⟨xs, hx.keep hk, e⟩
/-- the document's Apply of a table that lies below block B: what it tells stays, whatever turns between B and the call's own memory -/
def AppliedR (t : M.T) (n : Nat) (c : M.C) (B : Nat) (w : World) (e : Ending) (w' : World) : Prop :=
  ∃ A' c', e = .returned (.tuple #[.agg #[.int .i64 t.nodes, .slice A' n c'], .bool (M.fits t c)]) ∧ (∀ W, Turned (fun q => B ≤ q ∧ q < w.heap.size) w' W → TabIs W W.heap.size A' n c' (M.apply t c)) ∧ Below w.heap.size w w'
/-- the boxes, and the row behind the command -/
structure RefY (B : Nat) (w0 wr : World) (r : Nat) (nz : Int) (A : Option Addr) (n cp : Nat) (K sh nd : Int) (rev : Nat) (y : X) : Prop where
  tab : wr.heap[w0.heap.size]? = some (.cells #[.int .i64 nz, .slice A n cp] 24 (0, 0))
  cmd : wr.heap[w0.heap.size + 1]? = some (.cells #[.int .u8 K, .int .i64 sh, .int .i64 nd, .int .u64 (rev : Int)] 39 (0, 0))
  res : wr.heap[w0.heap.size + 1 + 1]? = some (.cells #[.int .i64 0, .slice none 0 0] 24 (0, 0))
  row : wr.heap[r]? = some (.cells #[.int .u64 (y.r.rev : Int), .int .u64 (y.r.term : Int), .int .i64 y.r.prim, .slice y.a y.n y.c] 42 (0, 0))
  below : Below w0.heap.size w0 wr
  brev : y.r.rev < 18446744073709551616
  bterm : y.r.term < 18446744073709551616
  bprim : I64 y.r.prim
  bsync : ∀ z ∈ y.r.sync, I64 z
  blight : y.n ≤ 17592186044416
  hB : B ≤ w0.heap.size
  sl : RdV wr B y.a y.n y.c (ints y.r.sync) ∨ OwnV wr w0.heap.size 3 y.sl (ints y.r.sync)
section
variable {B : Nat} {w0 wr wi w8 : World} {r n cp rev : Nat} {nz K sh nd : Int} {A : Option Addr} {x y : X} {u : Value} {l : List Int}
theorem RefY.on (h : RefY B w0 wr r nz A n cp K sh nd rev y) (hb : Below wr.heap.size wr wi) : RefY B w0 wi r nz A n cp K sh nd rev y :=
  ⟨(hb.block _ (heapLt h.tab)).trans h.tab, (hb.block _ (heapLt h.cmd)).trans h.cmd, (hb.block _ (heapLt h.res)).trans h.res, (hb.block _ (heapLt h.row)).trans h.row, h.below.trans (hb.mono h.below.size), h.brev, h.bterm, h.bprim, h.bsync, h.blight, h.hB,
    h.sl.elim (fun s => .inl (s.below (hb.mono (Nat.le_trans h.hB h.below.size)))) (fun s => .inr (s.below hb))⟩
/-- a cell of another box of a table is written -/
theorem RefY.set (h : RefY B w0 wr r nz A n cp K sh nd rev y) {o : Nat} {cs : Array Value} (ho : wr.heap[o]? = some (.cells cs 24 (0, 0))) (h1 : w0.heap.size + 1 + 1 < o) (hr : r ≠ o) (i : Nat) (v : Value) : RefY B w0 (wr.setCell ⟨o, i, none⟩ v) r nz A n cp K sh nd rev y := by
  refine ⟨heapFar h.tab (by show w0.heap.size ≠ o; omega), heapFar h.cmd (by show w0.heap.size + 1 ≠ o; omega), heapFar h.res (by show w0.heap.size + 1 + 1 ≠ o; omega), heapFar h.row (by show r ≠ o; exact hr), h.below.setCell (p := ⟨o, i, none⟩) (by show w0.heap.size ≤ o; omega) _, h.brev, h.bterm, h.bprim, h.bsync, h.blight, h.hB, ?_⟩
  have hB := h.hB
  rcases h.sl with s | s
  · exact .inl (s.keep fun p hp => World.cell?_setCell_other wr _ p _ (fun e => by rw [← e] at hp; simp at hp; omega))
  · exact .inr (s.turned (Turned.setCell (F := (· = o)) (Turned.refl _ wr) (p := ⟨o, i, none⟩) (.inl rfl) _) (fun q hq e => block_ne s ho (by decide) (by rw [hq, e])))
/-- the row can be read behind stores into the copy of the rows and into the result -/
theorem RefY.rd (h : RefY B w0 wr r nz A n cp K sh nd rev y) {g : Nat} {cur : Array Value} (hg : wr.heap[g]? = some (.cells cur 42 (0, 0))) (hg0 : w0.heap.size ≤ g) (W : World) (hT : Turned (fun q => (q = g ∨ q = w0.heap.size + 1 + 1) ∨ (B ≤ q ∧ q < w0.heap.size)) wr W) : RdX W W.heap.size y := by
  have hB := h.hB
  have hs := hT.size
  have hs0 := h.below.size
  refine ⟨h.brev, h.bterm, h.bprim, ?_, h.bsync, h.blight⟩
  rcases h.sl with s | s
  · refine (s.keep (fun p hp => hT.cell (by omega) (fun e => ?_))).more (by omega)
    rcases e with (e | e) | e <;> omega
  · have := s.turned hT (fun q hq e => by
      rcases e with (e | e) | e
      · exact block_ne s hg (by decide) (by rw [hq, e])
      · exact block_ne s h.res (by decide) (by rw [hq, e])
      · have := (s.lt q hq).1; omega)
    exact OwnV.rd this
/-- the table behind a command, laid out -/
theorem RefY.fin (h : RefY B w0 wr r nz A n cp K sh nd rev y) {g k c7 : Nat} {cur : Array Value} {xs : List X} {t' : M.T} {v : Value} (hg : wr.heap[g]? = some (.cells cur 42 (0, 0))) (hg0 : w0.heap.size ≤ g) (hc : ∀ (j : Nat) (u : Value), (xcells xs)[j]? = some u → cur[j]? = some u)
    (hk : k < xs.length) (hn : n = xs.length) (hcap : n ≤ c7) (hmax : c7 ≤ 9223372036854775807) (hl : n ≤ 2932031007402) (hrows : ∀ z ∈ xs, RdX w0 B z) (hu : t'.rows = (xs.set k y).map X.r) :
    (((put4 wr g k y).setCell ⟨w0.heap.size + 1 + 1, 0, none⟩ (.int .i64 nz)).setCell ⟨w0.heap.size + 1 + 1, 1, none⟩ v).heap[w0.heap.size + 1 + 1]? = some (.cells #[.int .i64 nz, v] 24 (0, 0)) ∧
    (∀ W, Turned (fun q => B ≤ q ∧ q < w0.heap.size) (((put4 wr g k y).setCell ⟨w0.heap.size + 1 + 1, 0, none⟩ (.int .i64 nz)).setCell ⟨w0.heap.size + 1 + 1, 1, none⟩ v) W → TabIs W W.heap.size (some ⟨g, 0, none⟩) n c7 t') ∧
    Below w0.heap.size w0 (((put4 wr g k y).setCell ⟨w0.heap.size + 1 + 1, 0, none⟩ (.int .i64 nz)).setCell ⟨w0.heap.size + 1 + 1, 1, none⟩ v) := by
  have hgr : g ≠ w0.heap.size + 1 + 1 := fun e => by
    have h1 := hg
    rw [e] at h1
    have := h1.symm.trans h.res
    simp at this
  have hcells := put4_cells y hg hc hk
  have hgl := heapLt hg
  have hT0 : Turned (fun q => q = g ∨ q = w0.heap.size + 1 + 1) wr (put4 wr g k y) := by
    unfold put4
    exact Turned.setCell (Turned.setCell (Turned.setCell (Turned.setCell (Turned.refl _ wr) (p := ⟨g, k * 4, none⟩) (.inl (.inl rfl)) _) (p := ⟨g, k * 4 + 1, none⟩) (.inl (.inl rfl)) _) (p := ⟨g, k * 4 + 2, none⟩) (.inl (.inl rfl)) _) (p := ⟨g, k * 4 + 3, none⟩) (.inl (.inl rfl)) _
  have hres : (put4 wr g k y).heap[w0.heap.size + 1 + 1]? = some (.cells #[.int .i64 0, .slice none 0 0] 24 (0, 0)) := by
    unfold put4
    exact heapFar (heapFar (heapFar (heapFar h.res (fun e => hgr e.symm)) (fun e => hgr e.symm)) (fun e => hgr e.symm)) (fun e => hgr e.symm)
  have hT : Turned (fun q => q = g ∨ q = w0.heap.size + 1 + 1) wr (((put4 wr g k y).setCell ⟨w0.heap.size + 1 + 1, 0, none⟩ (.int .i64 nz)).setCell ⟨w0.heap.size + 1 + 1, 1, none⟩ v) :=
    Turned.setCell (Turned.setCell hT0 (p := ⟨w0.heap.size + 1 + 1, 0, none⟩) (.inl (.inr rfl)) _) (p := ⟨w0.heap.size + 1 + 1, 1, none⟩) (.inl (.inr rfl)) _
  have hbW : Below w0.heap.size w0 (((put4 wr g k y).setCell ⟨w0.heap.size + 1 + 1, 0, none⟩ (.int .i64 nz)).setCell ⟨w0.heap.size + 1 + 1, 1, none⟩ v) :=
    h.below.trans (hT.below h.below.size (fun q hq => by rcases hq with rfl | rfl <;> omega))
  have hs := hT.size
  have hB := h.hB
  have hw0s := hbW.size
  refine ⟨heapSet 1 _ (heapSet 0 _ hres), fun W hW => ?_, hbW⟩
  have hTW : Turned (fun q => (q = g ∨ q = w0.heap.size + 1 + 1) ∨ (B ≤ q ∧ q < w0.heap.size)) wr W := (hT.more (fun q _ hq => .inl hq)).trans (hW.more (fun q _ hq => .inr hq))
  have hrd := h.rd hg hg0 W hTW
  have hsW := hW.size
  refine ⟨xs.set k y, ⟨by simpa using hn, hcap, hmax, hl, fun _ => ⟨g, 0, rfl, by omega, fun i hi => ?_⟩, fun z hz => ?_⟩, hu.symm⟩
  · obtain ⟨c0, c1, c2, c3⟩ := hcells i hi
    have far : ∀ q, W.cell? ⟨g, q, none⟩ = (put4 wr g k y).cell? ⟨g, q, none⟩ := fun q => by
      rw [hW.cell (p := ⟨g, q, none⟩) (by show g < _; omega) (fun e => by have := e.2; simp only at this; omega), World.cell?_setCell_other _ _ _ _ (fun e => hgr (congrArg Addr.block e).symm), World.cell?_setCell_other _ _ _ _ (fun e => hgr (congrArg Addr.block e).symm)]
    exact ⟨(far _).trans c0, (far _).trans c1, (far _).trans c2, (far _).trans c3⟩
  · rcases List.mem_or_eq_of_mem_set hz with h1 | rfl
    · refine ((hrows z h1).keep fun p hp => ?_).more (by omega)
      rw [hW.cell (p := p) (by omega) (fun e => by have := e.1; omega)]
      exact hbW.cell (by omega)
    · exact hrd
end
end Go.Proofs.Ytghnelfgnfhclaa
