/-
  cmp.Or of two numbers, match.Order, the document's Ahead: by contracts.
-/
import Derived.Test.YtlmidhhonnnocaaDoorMatchA
namespace Go.Proofs.YtlmidhhonnnocaaDoor
open Go.RowKit Mem
set_option linter.unusedVariables false
set_option maxRecDepth 100000

def dval (d : M.D) : Value := .agg #[.string ⟨d.id.toArray⟩, .int .i64 d.time, .string ⟨d.text.toArray⟩]
def SaysZ (z : Int) (w : World) (e : Ending) (w' : World) : Prop := e = .returned (.int .i64 z) ∧ Below w.heap.size w w'
def orZ (x y : Int) : Int := if x ≠ 0 then x else y

theorem two_docs (w : World) (a b : M.D) : ((w.alloc (.cells #[.string ⟨a.id.toArray⟩, .int .i64 a.time, .string ⟨a.text.toArray⟩] 52)).alloc (.cells #[.string ⟨b.id.toArray⟩, .int .i64 b.time, .string ⟨b.text.toArray⟩] 52)).cell? ⟨w.heap.size, 0, none⟩ = some (.string ⟨a.id.toArray⟩) ∧
    ((w.alloc (.cells #[.string ⟨a.id.toArray⟩, .int .i64 a.time, .string ⟨a.text.toArray⟩] 52)).alloc (.cells #[.string ⟨b.id.toArray⟩, .int .i64 b.time, .string ⟨b.text.toArray⟩] 52)).cell? ⟨w.heap.size, 1, none⟩ = some (.int .i64 a.time) ∧
    ((w.alloc (.cells #[.string ⟨a.id.toArray⟩, .int .i64 a.time, .string ⟨a.text.toArray⟩] 52)).alloc (.cells #[.string ⟨b.id.toArray⟩, .int .i64 b.time, .string ⟨b.text.toArray⟩] 52)).cell? ⟨w.heap.size + 1, 0, none⟩ = some (.string ⟨b.id.toArray⟩) ∧
    ((w.alloc (.cells #[.string ⟨a.id.toArray⟩, .int .i64 a.time, .string ⟨a.text.toArray⟩] 52)).alloc (.cells #[.string ⟨b.id.toArray⟩, .int .i64 b.time, .string ⟨b.text.toArray⟩] 52)).cell? ⟨w.heap.size + 1, 1, none⟩ = some (.int .i64 b.time) := by
  generalize hW : w.alloc (.cells #[.string ⟨a.id.toArray⟩, .int .i64 a.time, .string ⟨a.text.toArray⟩] 52) = W
  have h1 : W.heap[w.heap.size]? = some (.cells #[.string ⟨a.id.toArray⟩, .int .i64 a.time, .string ⟨a.text.toArray⟩] 52) := by rw [← hW]; exact heap_alloc_new w _
  have h2 : W.heap.size = w.heap.size + 1 := by rw [← hW]; simp
  have h3 := heap_alloc_new W (.cells #[.string ⟨b.id.toArray⟩, .int .i64 b.time, .string ⟨b.text.toArray⟩] 52)
  have h4 := heapOld (o := .cells #[.string ⟨b.id.toArray⟩, .int .i64 b.time, .string ⟨b.text.toArray⟩] 52) h1
  rw [h2] at h3
  exact ⟨cell_of_row _ _ 0 _ _ _ h4, cell_of_row _ _ 1 _ _ _ h4, cell_of_row _ _ 0 _ _ _ h3, cell_of_row _ _ 1 _ _ _ h3⟩

/-- two entries that lie in blocks k and k + 1 -/
def TwoDocs (k : Nat) (a b : M.D) (W : World) : Prop := W.cell? ⟨k, 0, none⟩ = some (.string ⟨a.id.toArray⟩) ∧ W.cell? ⟨k, 1, none⟩ = some (.int .i64 a.time) ∧ W.cell? ⟨k + 1, 0, none⟩ = some (.string ⟨b.id.toArray⟩) ∧ W.cell? ⟨k + 1, 1, none⟩ = some (.int .i64 b.time)
theorem TwoDocs.alloc {k : Nat} {a b : M.D} {W : World} (h : TwoDocs k a b W) (o : Obj) (hk : k + 1 < W.heap.size) : TwoDocs k a b (W.alloc o) :=
  ⟨(World.cell?_alloc_lt W o _ (by show k < _; omega)).trans h.1, (World.cell?_alloc_lt W o _ (by show k < _; omega)).trans h.2.1, (World.cell?_alloc_lt W o _ hk).trans h.2.2.1, (World.cell?_alloc_lt W o _ hk).trans h.2.2.2⟩

end Go.Proofs.YtlmidhhonnnocaaDoor
