/-
  The laws' arguments of layer 2: numbers, acts.
-/
import Derived.Test.YtflijlaajbpapaaRows
import Derived.Test.YtflijlaajbpapaaOpen
namespace Go.Proofs.Ytflijlaajbpapaa
open Go.RowKit Mem
set_option linter.unusedVariables false
set_option maxRecDepth 100000

theorem Try.aIntCells : Try.prog.cellsOf 3 = 1 := by kernel_rfl
theorem Try.aBytesCells : Try.prog.cellsOf 22 = 1 := by kernel_rfl
theorem Try.aIntsCells : Try.prog.cellsOf 29 = 1 := by kernel_rfl
theorem Try.aByteCells : Try.prog.cellsOf 5 = 1 := by kernel_rfl
theorem Try.aStrCells : Try.prog.cellsOf 9 = 1 := by kernel_rfl
theorem Try.aByteBytes : Try.prog.bytesOf 5 = 1 := by kernel_rfl

section
variable {H : Type} {enc : TypeId × Value → H} {w : World} {base fuel : Nat} {held : Bool}
theorem open_ints_arg {r : Reach} {b0 : Nat} {v : Value} {d : DataW H} {p : List MemPlace} (hv : Value.okWide Try.prog w r b0 29 v) (h : DataW.Trod enc Try.prog w base (fun _ => true) held 29 v d p) (hw : Light Try.prog 29 d) :
    ∃ A n c, ∃ ks : List Int, v = .slice A n c ∧ RdV w w.heap.size A n c (ks.map (Value.int .i64)) ∧ ∀ k ∈ ks, -9223372036854775808 ≤ k ∧ k ≤ 9223372036854775807 := by
  obtain ⟨A0, n0, c0, rfl⟩ := Go.WideShapes.okWide_slice Try.underlying29 hv
  obtain ⟨fuel, hf⟩ := h
  exact open_i64s Try.underlying29 Try.underlying3 Try.aIntCells (v := .slice A0 n0 c0) (by simpa [Value.cells] using hf)
end

/-- an act: a call of a disk -/
structure ActD where
  kind : Nat
  name : ByteArray
  to : ByteArray
  A : Option Addr
  n : Nat
  c : Nat
  l : List UInt8
  num : Int
  A' : Option Addr
  n' : Nat
  c' : Nat
  ks : List Int
instance : Inhabited ActD := ⟨⟨0, ByteArray.empty, ByteArray.empty, none, 0, 0, [], 0, none, 0, 0, []⟩⟩
def ActD.cells (x : ActD) : List Value := [.int .u8 x.kind, .string x.name, .string x.to, .slice x.A x.n x.c, .int .i64 x.num, .slice x.A' x.n' x.c']
def ActD.ok (w : World) (B : Nat) (x : ActD) : Prop := x.kind < 256 ∧ x.name.size ≤ 9223372036854775807 ∧ x.to.size ≤ 9223372036854775807 ∧ Rd w B x.A x.n x.c x.l ∧ x.c ≤ 140737488351232 ∧ (-9223372036854775808 ≤ x.num ∧ x.num ≤ 9223372036854775807) ∧
  RdV w B x.A' x.n' x.c' (x.ks.map (Value.int .i64)) ∧ ∀ k ∈ x.ks, -9223372036854775808 ≤ k ∧ k ≤ 9223372036854775807
def RdActs (w : World) (B : Nat) (A : Option Addr) (n c : Nat) (xs : List ActD) : Prop :=
  n = xs.length ∧ n ≤ c ∧ c ≤ 9223372036854775807 ∧ (∀ x ∈ xs, x.ok w B) ∧ (0 < n → ∃ b off, A = some ⟨b, off, none⟩ ∧ b < B ∧ ∀ i (hi : i < xs.length) j, j < 6 → w.cell? ⟨b, off + i * 6 + j, none⟩ = xs[i].cells[j]?)

section
variable {w w' : World} {B n c : Nat} {A : Option Addr} {xs : List ActD}
theorem ActD.ok.below {x : ActD} (h : x.ok w B) (hb : Below B w w') : x.ok w' B := by
  obtain ⟨h1, h2, h3, h4, h5, h6, h7, h8⟩ := h
  exact ⟨h1, h2, h3, h4.below hb, h5, h6, h7.below hb, h8⟩
theorem RdActs.below (h : RdActs w B A n c xs) (hb : Below B w w') : RdActs w' B A n c xs := by
  obtain ⟨h1, h2, h3, h4, h5⟩ := h
  refine ⟨h1, h2, h3, fun x hx => (h4 x hx).below hb, fun hn => ?_⟩
  obtain ⟨b, off, e, hb1, hc⟩ := h5 hn
  exact ⟨b, off, e, hb1, fun i hi j hj => (hb.cell (p := ⟨b, off + i * 6 + j, none⟩) hb1).trans (hc i hi j hj)⟩
end

section
variable {H : Type} {enc : TypeId × Value → H} {w : World} {base fuel : Nat} {held : Bool}
end
end Go.Proofs.Ytflijlaajbpapaa
