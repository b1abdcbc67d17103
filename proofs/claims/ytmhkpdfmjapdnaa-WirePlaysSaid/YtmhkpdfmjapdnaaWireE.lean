/-
  The laws' arguments: a packet, packets, acts.
-/
import Derived.Test.YtmhkpdfmjapdnaaWireD
import Derived.Test.YtmhkpdfmjapdnaaOpen
namespace Go.Proofs.Ytmhkpdfmjapdnaa
open Go.RowKit Mem Go.WideShapes
set_option linter.unusedVariables false

theorem Try.packetStruct : ∃ f0 f1 f2 : Field, Try.prog.underlying 29 = some (.struct #[f0, f1, f2]) ∧ f0.type = 3 ∧ f0.offset = 0 ∧ f1.type = 3 ∧ f1.offset = 1 ∧ f2.type = 27 ∧ f2.offset = 2 := ⟨_, _, _, Try.underlying29, rfl, rfl, rfl, rfl, rfl, rfl⟩
theorem Try.packetCells : Try.prog.cellsOf 29 = 3 := by kernel_rfl
theorem Try.intCells : Try.prog.cellsOf 3 = 1 := by kernel_rfl
theorem Try.bytesCells : Try.prog.cellsOf 27 = 1 := by kernel_rfl
theorem Try.byteCells : Try.prog.cellsOf 5 = 1 := by kernel_rfl
theorem Try.byteBytes : Try.prog.bytesOf 5 = 1 := by kernel_rfl

section
variable {H : Type} {enc : TypeId × Value → H} {w : World} {base fuel : Nat} {held : Bool}
theorem packet_cells {cs : List Value} {x : DataW H × List MemPlace} (h : DataW.trod enc Try.prog w base (fun _ => true) held fuel 29 cs = some x) (hw : Light Try.prog 29 x.1) :
    ∃ (q : Pk) (A : Option Addr) (n c : Nat), cs = [.int .i64 q.src, .int .i64 q.dst, .slice A n c] ∧ q.fits ∧ Rd w w.heap.size A n c q.data ∧ c ≤ 140737488351232 := by
  obtain ⟨f0, f1, f2, hs, t0, o0, t1, o1, t2, o2⟩ := Try.packetStruct
  obtain ⟨hl, m, hf⟩ := open_fields hs h hw
  rw [Try.packetCells] at hl
  match cs, hl with
  | [c0, c1, c2], _ =>
    obtain ⟨y0, g0, _⟩ := hf 0 f0 rfl
    obtain ⟨y1, g1, _⟩ := hf 1 f1 rfl
    obtain ⟨y2, g2, l2⟩ := hf 2 f2 rfl
    rw [t0, o0, Try.intCells] at g0
    rw [t1, o1, Try.intCells] at g1
    rw [t2] at l2
    rw [t2, o2, Try.bytesCells] at g2
    obtain ⟨a, rfl, ha1, ha2⟩ := open_i64 Try.underlying3 g0
    obtain ⟨b, rfl, hb1, hb2⟩ := open_i64 Try.underlying3 g1
    obtain ⟨A, n, c, l, rfl, hr, hc⟩ := open_bytes Try.underlying27 Try.underlying5 Try.byteCells Try.byteBytes g2 l2
    exact ⟨⟨a, b, l⟩, A, n, c, rfl, ⟨ha1, ha2, hb1, hb2⟩, hr, hc⟩

theorem open_packet {r : Reach} {b0 : Nat} {v : Value} {d : DataW H} {p : List MemPlace} (hv : Value.okWide Try.prog w r b0 29 v) (h : DataW.Trod enc Try.prog w base (fun _ => true) held 29 v d p) (hw : Light Try.prog 29 d) :
    ∃ (q : Pk) (A : Option Addr) (n c : Nat), v = .agg #[.int .i64 q.src, .int .i64 q.dst, .slice A n c] ∧ q.fits ∧ Rd w w.heap.size A n c q.data ∧ c ≤ 140737488351232 := by
  obtain ⟨f0, f1, f2, hs, _⟩ := Try.packetStruct
  obtain ⟨cs, rfl, hsz⟩ := okWide_struct hs hv
  obtain ⟨fuel, hf⟩ := h
  obtain ⟨q, A, n, c, hcs, hq, hr, hc⟩ := packet_cells hf hw
  refine ⟨q, A, n, c, ?_, hq, hr, hc⟩
  have : cs.toList = [.int .i64 q.src, .int .i64 q.dst, .slice A n c] := by simpa [Value.cells] using hcs
  rw [← this]
end
end Go.Proofs.Ytmhkpdfmjapdnaa
