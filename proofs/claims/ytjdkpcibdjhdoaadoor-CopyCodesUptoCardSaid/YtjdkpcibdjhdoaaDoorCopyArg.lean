/-
  The laws' arguments of layer 16: an entry of a history.
-/
import Derived.Test.YtjdkpcibdjhdoaaDoorCopyZ
import Derived.Test.YtjdkpcibdjhdoaaDoorOpen
import Derived.Test.YtjdkpcibdjhdoaaDoorBulk
namespace Go.Proofs.YtjdkpcibdjhdoaaDoor
open Go.RowKit Mem Go.ChangeShapes Go.WideShapes Go.Deep
set_option linter.unusedVariables false
set_option maxRecDepth 100000

theorem Tryd.docStruct16 : ∃ f0 f1 f2 : Field, Tryd.prog.underlying 24 = some (.struct #[f0, f1, f2]) ∧ (f0.type = 9 ∧ f0.offset = 0) ∧ (f1.type = 2 ∧ f1.offset = 1) ∧ (f2.type = 9 ∧ f2.offset = 2) :=
  ⟨_, _, _, Tryd.underlying24, ⟨rfl, rfl⟩, ⟨rfl, rfl⟩, ⟨rfl, rfl⟩⟩
theorem Tryd.opStruct : ∃ f0 f1 : Field, Tryd.prog.underlying 26 = some (.struct #[f0, f1]) ∧ (f0.type = 22 ∧ f0.offset = 0) ∧ (f1.type = 24 ∧ f1.offset = 1) :=
  ⟨_, _, Tryd.underlying26, ⟨rfl, rfl⟩, ⟨rfl, rfl⟩⟩
theorem Tryd.docCells16 : Tryd.prog.cellsOf 24 = 3 := by kernel_rfl
theorem Tryd.opCells : Tryd.prog.cellsOf 26 = 4 := by kernel_rfl
theorem Tryd.opCells' : 0 < Tryd.prog.cellsOf 26 := by rw [Tryd.opCells]; omega
theorem Tryd.strCells16 : Tryd.prog.cellsOf 9 = 1 := by kernel_rfl
theorem Tryd.i64Cells16 : Tryd.prog.cellsOf 2 = 1 := by kernel_rfl
theorem Tryd.u64Cells16 : Tryd.prog.cellsOf 22 = 1 := by kernel_rfl
theorem str_bl16 (s : ByteArray) : (⟨s.data.toList.toArray⟩ : ByteArray) = s := by cases s; simp

/-- an entry that comes in -/
def OpArg (o : M.O) : Prop := o.term < 18446744073709551616 ∧ -9223372036854775808 ≤ o.doc.time ∧ o.doc.time ≤ 9223372036854775807
section
variable {H : Type} {enc : TypeId × Value → H} {w : World} {base fuel : Nat} {held : Bool}
theorem open_u64c {t : TypeId} {v : Value} {x : DataW H × List MemPlace} (ht : Tryd.prog.underlying t = some (.int .u64)) (h : DataW.trod enc Tryd.prog w base (fun _ => true) held fuel t [v] = some x) : ∃ n : Nat, v = .int .u64 n ∧ n < 18446744073709551616 := by
  obtain ⟨n, hcs, _, hw⟩ := DataW.trod_int ht h
  simp at hcs
  have hb := bounds_u64 hw
  exact ⟨n.toNat, by rw [hcs, Int.toNat_of_nonneg hb.1], by omega⟩
theorem doc_cells16 {cs : List Value} {x : DataW H × List MemPlace} (h : DataW.trod enc Tryd.prog w base (fun _ => true) held fuel 24 cs = some x) :
    ∃ d : M.D, cs = [.string ⟨d.id.toArray⟩, .int .i64 d.time, .string ⟨d.text.toArray⟩] ∧ (-9223372036854775808 ≤ d.time ∧ d.time ≤ 9223372036854775807) ∧ d.id.length + d.text.length ≤ Rows.uptoBulk x.1 := by
  obtain ⟨f0, f1, f2, hs, ⟨t0, o0⟩, ⟨t1, o1⟩, ⟨t2, o2⟩⟩ := Tryd.docStruct16
  obtain ⟨xs, n, _, hx, hl, hlen, hf⟩ := DataW.trod_struct hs h
  rw [Tryd.docCells16] at hl
  have hlen' : xs.length = 3 := by simpa using hlen
  match cs, hl, xs, hlen' with
  | [c0, c1, c2], _, [x0, x1, x2], _ =>
    have g0 := hf 0 f0 rfl
    have g1 := hf 1 f1 rfl
    have g2 := hf 2 f2 rfl
    rw [t0, o0, Tryd.strCells16] at g0
    rw [t1, o1, Tryd.i64Cells16] at g1
    rw [t2, o2, Tryd.strCells16] at g2
    obtain ⟨s1, e1, hx1, _⟩ := DataW.trod_string Tryd.underlying9 g0
    obtain ⟨z, rfl, hz1, hz2⟩ := open_i64 (v := c1) Tryd.underlying2 g1
    obtain ⟨s2, e2, hx2, _⟩ := DataW.trod_string Tryd.underlying9 g2
    simp at e1 e2
    subst e1 e2
    refine ⟨⟨s1.data.toList, z, s2.data.toList⟩, by simp only [str_bl16], ⟨hz1, hz2⟩, ?_⟩
    subst hx
    rw [hx1, hx2]
    simp only [List.map_cons, List.map_nil, Rows.uptoBulk, Rows.uptoBulkAll]
    omega
theorem op_cells {cs : List Value} {x : DataW H × List MemPlace} (h : DataW.trod enc Tryd.prog w base (fun _ => true) held fuel 26 cs = some x) :
    ∃ o : M.O, cs = [.int .u64 (o.term : Int), .string ⟨o.doc.id.toArray⟩, .int .i64 o.doc.time, .string ⟨o.doc.text.toArray⟩] ∧ OpArg o ∧ o.doc.id.length + o.doc.text.length ≤ Rows.uptoBulk x.1 := by
  obtain ⟨f0, f1, hs, ⟨t0, o0⟩, ⟨t1, o1⟩⟩ := Tryd.opStruct
  obtain ⟨xs, n, _, hx, hl, hlen, hf⟩ := DataW.trod_struct hs h
  rw [Tryd.opCells] at hl
  have hlen' : xs.length = 2 := by simpa using hlen
  match cs, hl, xs, hlen' with
  | [c0, c1, c2, c3], _, [x0, x1], _ =>
    have g0 := hf 0 f0 rfl
    have g1 := hf 1 f1 rfl
    rw [t0, o0, Tryd.u64Cells16] at g0
    rw [t1, o1, Tryd.docCells16] at g1
    obtain ⟨t, rfl, ht⟩ := open_u64c (v := c0) Tryd.underlying22 g0
    obtain ⟨d, e1, hz, hb⟩ := doc_cells16 (cs := [c1, c2, c3]) g1
    simp at e1
    obtain ⟨rfl, rfl, rfl⟩ := e1
    refine ⟨⟨t, d⟩, rfl, ⟨ht, hz⟩, ?_⟩
    subst hx
    simp only [List.map_cons, List.map_nil, Rows.uptoBulk, Rows.uptoBulkAll]
    omega
theorem open_opB {r : Reach} {b0 : Nat} {v : Value} {d : DataW H} {p : List MemPlace} (hv : Value.okWide Tryd.prog w r b0 26 v) (h : DataW.Trod enc Tryd.prog w base (fun _ => true) held 26 v d p) :
    ∃ q : M.O, v = oval q ∧ OpArg q ∧ q.doc.id.length + q.doc.text.length ≤ Rows.uptoBulk d := by
  obtain ⟨f0, f1, hs, _⟩ := Tryd.opStruct
  obtain ⟨cs, rfl, hsz⟩ := okWide_struct hs hv
  obtain ⟨fuel, hf⟩ := h
  obtain ⟨q, hcs, hz, hb⟩ := op_cells hf
  refine ⟨q, ?_, hz, hb⟩
  have : cs.toList = [.int .u64 (q.term : Int), .string ⟨q.doc.id.toArray⟩, .int .i64 q.doc.time, .string ⟨q.doc.text.toArray⟩] := by simpa [Value.cells] using hcs
  unfold oval
  rw [← this]
theorem open_op16 {r : Reach} {b0 : Nat} {v : Value} {d : DataW H} {p : List MemPlace} (hv : Value.okWide Tryd.prog w r b0 26 v) (h : DataW.Trod enc Tryd.prog w base (fun _ => true) held 26 v d p) (_ : Light Tryd.prog 26 d) :
    ∃ q : M.O, v = oval q ∧ OpArg q := by
  obtain ⟨q, e, h, _⟩ := open_opB hv h
  exact ⟨q, e, h⟩
end
end Go.Proofs.YtjdkpcibdjhdoaaDoor
