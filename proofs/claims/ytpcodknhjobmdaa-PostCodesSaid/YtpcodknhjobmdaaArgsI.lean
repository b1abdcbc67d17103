/-
  Numbers as a law's argument: what is read of them, and how many there are at most.
-/
import Derived.Test.YtpcodknhjobmdaaRows
import Derived.Test.YtpcodknhjobmdaaOpen
namespace Go.Proofs.Ytpcodknhjobmdaa
open Go.RowKit Mem Go.ChangeShapes Go.WideShapes Go.Deep
set_option linter.unusedVariables false
set_option maxRecDepth 100000

theorem Try.aiCells : Try.prog.cellsOf 3 = 1 := by kernel_rfl
theorem Try.aiBytes : Try.prog.bytesOf 3 = 8 := by kernel_rfl

section
variable {H : Type} {enc : TypeId × Value → H} {w : World} {base fuel : Nat} {held : Bool}
theorem open_ints_sz {r : Reach} {b0 : Nat} {v : Value} {d : DataW H} {p : List MemPlace} (hv : Value.okWide Try.prog w r b0 22 v) (h : DataW.Trod enc Try.prog w base (fun _ => true) held 22 v d p) (hw : Light Try.prog 22 d) :
    ∃ A n c, ∃ ks : List Int, v = .slice A n c ∧ RdV w w.heap.size A n c (ks.map (Value.int .i64)) ∧ (∀ k ∈ ks, -9223372036854775808 ≤ k ∧ k ≤ 9223372036854775807) ∧ c ≤ 17592186043904 := by
  obtain ⟨A0, n0, c0, rfl⟩ := Go.WideShapes.okWide_slice Try.underlying22 hv
  obtain ⟨fuel, hf⟩ := h
  have hf' : DataW.trod enc Try.prog w base (fun _ => true) held fuel 22 [.slice A0 n0 c0] = some (d, p) := by simpa [Value.cells] using hf
  obtain ⟨A, n, c, ks, e, h1, h2⟩ := open_i64s Try.underlying22 Try.underlying3 Try.aiCells hf'
  injection e with e1 e2 e3
  subst e1 e2 e3
  refine ⟨A0, n0, c0, ks, rfl, h1, h2, ?_⟩
  rcases open_ints Try.underlying22 Try.underlying3 Try.aiCells hf' with ⟨hcs, _⟩ | ⟨a, l, c, zs, hcs, _, hl, hm, hz, hx, hcell, hwz⟩
  · simp at hcs; omega
  · simp at hcs
    obtain ⟨_, rfl, rfl⟩ := hcs
    have hz' : zs.length = c0 := by simpa using hz
    simp only [Prod.mk.injEq] at hx
    obtain ⟨rfl, rfl⟩ := hx
    have := hw (((lits .i64 (zs.take n0) : List (DataW H)).length + (lits .i64 (zs.drop n0) : List (DataW H)).length) * Try.prog.bytesOf 3) (by simp [DataW.weights, Try.underlying22])
    rw [Try.aiBytes] at this
    simp only [lits, List.length_map, List.length_take, List.length_drop, reachBytes] at this
    omega
end
end Go.Proofs.Ytpcodknhjobmdaa
