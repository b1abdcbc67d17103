/-
  The laws' arguments of layer 14: commands, tables.
-/
import Derived.Test.YtghnelfgnfhclaaMetaG
import Derived.Test.YtghnelfgnfhclaaOpen
namespace Go.Proofs.Ytghnelfgnfhclaa
open Go.RowKit Mem
set_option linter.unusedVariables false
set_option maxRecDepth 100000

theorem Try.aIntCells : Try.prog.cellsOf 3 = 1 := by kernel_rfl
theorem Try.aIntsCells : Try.prog.cellsOf 40 = 1 := by kernel_rfl
theorem Try.aRowsCells : Try.prog.cellsOf 22 = 1 := by kernel_rfl
theorem Try.aByteCells : Try.prog.cellsOf 5 = 1 := by kernel_rfl
theorem Try.aU64Cells : Try.prog.cellsOf 37 = 1 := by kernel_rfl
theorem Try.aIntBytes : Try.prog.bytesOf 3 = 8 := by kernel_rfl
theorem Try.aRowBytes : Try.prog.bytesOf 42 = 48 := by kernel_rfl
theorem Try.cmdStruct : ∃ f0 f1 f2 f3 : Field, Try.prog.underlying 39 = some (.struct #[f0, f1, f2, f3]) ∧ (f0.type = 5 ∧ f0.offset = 0) ∧ (f1.type = 3 ∧ f1.offset = 1) ∧ (f2.type = 3 ∧ f2.offset = 2) ∧ (f3.type = 37 ∧ f3.offset = 3) :=
  ⟨_, _, _, _, Try.underlying39, ⟨rfl, rfl⟩, ⟨rfl, rfl⟩, ⟨rfl, rfl⟩, ⟨rfl, rfl⟩⟩
theorem Try.cmdCells : Try.prog.cellsOf 39 = 4 := by kernel_rfl
theorem Try.cmdCells' : 0 < Try.prog.cellsOf 39 := by rw [Try.cmdCells]; omega
theorem Try.rowStruct : ∃ f0 f1 f2 f3 : Field, Try.prog.underlying 42 = some (.struct #[f0, f1, f2, f3]) ∧ (f0.type = 37 ∧ f0.offset = 0) ∧ (f1.type = 37 ∧ f1.offset = 1) ∧ (f2.type = 3 ∧ f2.offset = 2) ∧ (f3.type = 40 ∧ f3.offset = 3) :=
  ⟨_, _, _, _, Try.underlying42, ⟨rfl, rfl⟩, ⟨rfl, rfl⟩, ⟨rfl, rfl⟩, ⟨rfl, rfl⟩⟩
theorem Try.rowCells : Try.prog.cellsOf 42 = 4 := by kernel_rfl
theorem Try.rowCells' : 0 < Try.prog.cellsOf 42 := by rw [Try.rowCells]; omega
theorem Try.tabStruct : ∃ f0 f1 : Field, Try.prog.underlying 24 = some (.struct #[f0, f1]) ∧ (f0.type = 3 ∧ f0.offset = 0) ∧ (f1.type = 22 ∧ f1.offset = 1) :=
  ⟨_, _, Try.underlying24, ⟨rfl, rfl⟩, ⟨rfl, rfl⟩⟩
theorem Try.tabCells : Try.prog.cellsOf 24 = 2 := by kernel_rfl

def ccells (c : M.C) : List Value := [.int .u8 (c.kind : Int), .int .i64 c.shard, .int .i64 c.node, .int .u64 (c.rev : Int)]
/-- the slice (A, n, c) holds commands -/
def RdCs (w : World) (B : Nat) (A : Option Addr) (n c : Nat) (cs : List M.C) : Prop :=
  n = cs.length ∧ n ≤ c ∧ c ≤ 9223372036854775807 ∧ (∀ x ∈ cs, CmdOk x) ∧ (0 < n → ∃ b off, A = some ⟨b, off, none⟩ ∧ b < B ∧ ∀ i (hi : i < cs.length),
    w.cell? ⟨b, off + i * 4, none⟩ = some (.int .u8 (cs[i].kind : Int)) ∧ w.cell? ⟨b, off + i * 4 + 1, none⟩ = some (.int .i64 cs[i].shard) ∧ w.cell? ⟨b, off + i * 4 + 2, none⟩ = some (.int .i64 cs[i].node) ∧ w.cell? ⟨b, off + i * 4 + 3, none⟩ = some (.int .u64 (cs[i].rev : Int)))
theorem RdCs.below {w w' : World} {B n c : Nat} {A : Option Addr} {cs : List M.C} (h : RdCs w B A n c cs) (hb : Below B w w') : RdCs w' B A n c cs := by
  obtain ⟨h1, h2, h3, h4, h5⟩ := h
  refine ⟨h1, h2, h3, h4, fun hn => ?_⟩
  obtain ⟨b, off, e, hb1, hc⟩ := h5 hn
  exact ⟨b, off, e, hb1, fun i hi => ⟨(hb.cell (p := ⟨b, off + i * 4, none⟩) hb1).trans (hc i hi).1, (hb.cell (p := ⟨b, off + i * 4 + 1, none⟩) hb1).trans (hc i hi).2.1, (hb.cell (p := ⟨b, off + i * 4 + 2, none⟩) hb1).trans (hc i hi).2.2.1, (hb.cell (p := ⟨b, off + i * 4 + 3, none⟩) hb1).trans (hc i hi).2.2.2⟩⟩

section
variable {H : Type} {enc : TypeId × Value → H} {w : World} {base fuel : Nat} {held : Bool}
theorem open_u64' {t : TypeId} {v : Value} {x : DataW H × List MemPlace} (ht : Try.prog.underlying t = some (.int .u64)) (h : DataW.trod enc Try.prog w base (fun _ => true) held fuel t [v] = some x) : ∃ n : Nat, v = .int .u64 n ∧ n < 18446744073709551616 := by
  obtain ⟨n, hcs, _, hw⟩ := DataW.trod_int ht h
  simp at hcs
  have hb := bounds_u64 hw
  exact ⟨n.toNat, by rw [hcs, Int.toNat_of_nonneg hb.1], by omega⟩
theorem cmd_cells {cs : List Value} {x : DataW H × List MemPlace} (h : DataW.trod enc Try.prog w base (fun _ => true) held fuel 39 cs = some x) (hw : Light Try.prog 39 x.1) :
    ∃ c : M.C, cs = ccells c ∧ CmdOk c := by
  obtain ⟨f0, f1, f2, f3, hs, ⟨t0, o0⟩, ⟨t1, o1⟩, ⟨t2, o2⟩, ⟨t3, o3⟩⟩ := Try.cmdStruct
  obtain ⟨hl, m, hf⟩ := open_fields hs h hw
  rw [Try.cmdCells] at hl
  match cs, hl with
  | [c0, c1, c2, c3], _ =>
    obtain ⟨y0, g0, _⟩ := hf 0 f0 rfl
    obtain ⟨y1, g1, _⟩ := hf 1 f1 rfl
    obtain ⟨y2, g2, _⟩ := hf 2 f2 rfl
    obtain ⟨y3, g3, _⟩ := hf 3 f3 rfl
    rw [t0, o0, Try.aByteCells] at g0
    rw [t1, o1, Try.aIntCells] at g1
    rw [t2, o2, Try.aIntCells] at g2
    rw [t3, o3, Try.aU64Cells] at g3
    obtain ⟨k, rfl, hk⟩ := open_u8 Try.underlying5 g0
    obtain ⟨z1, rfl, hz1⟩ := open_i64 Try.underlying3 g1
    obtain ⟨z2, rfl, hz2⟩ := open_i64 Try.underlying3 g2
    obtain ⟨r, rfl, hr⟩ := open_u64' Try.underlying37 g3
    exact ⟨⟨k, z1, z2, r⟩, rfl, hk, hz1, hz2, hr⟩
theorem open_cmds {r : Reach} {b0 : Nat} {v : Value} {d : DataW H} {p : List MemPlace} (hv : Value.okWide Try.prog w r b0 34 v) (h : DataW.Trod enc Try.prog w base (fun _ => true) held 34 v d p) (hw : Light Try.prog 34 d) :
    ∃ A n c xs, v = .slice A n c ∧ RdCs w w.heap.size A n c xs := by
  obtain ⟨A0, n0, c0, rfl⟩ := Go.WideShapes.okWide_slice Try.underlying34 hv
  obtain ⟨fuel, hf⟩ := h
  obtain ⟨A, n, c, hcs, hl, hm, _, hel⟩ := open_elems Try.underlying34 Try.cmdCells' (v := .slice A0 n0 c0) (by simpa [Value.cells] using hf) hw
  injection hcs with e1 e2 e3
  subst e1 e2 e3
  have hm' : c0 ≤ 9223372036854775807 := by simpa only [maxLen] using hm
  rcases Nat.eq_zero_or_pos n0 with h0 | h0
  · subst h0
    exact ⟨A0, 0, c0, [], rfl, rfl, hl, hm', by simp, fun h => absurd h (by omega)⟩
  · obtain ⟨b, off, rfl, hb, m, hi⟩ := hel h0
    have each : ∀ i, i < n0 → ∃ x : M.C, CmdOk x ∧ w.cell? ⟨b, off + i * 4, none⟩ = some (.int .u8 (x.kind : Int)) ∧ w.cell? ⟨b, off + i * 4 + 1, none⟩ = some (.int .i64 x.shard) ∧ w.cell? ⟨b, off + i * 4 + 2, none⟩ = some (.int .i64 x.node) ∧ w.cell? ⟨b, off + i * 4 + 3, none⟩ = some (.int .u64 (x.rev : Int)) := fun i hin => by
      obtain ⟨cs, y, hlen, hat, htr, hlt⟩ := hi i hin
      obtain ⟨a, rfl, hok⟩ := cmd_cells htr hlt
      rw [Try.cmdCells] at hat
      refine ⟨a, hok, ?_, ?_, ?_, ?_⟩
      · have := hat 0 (by omega); rwa [Nat.add_zero] at this
      · have := hat 1 (by omega); rwa [← Nat.add_assoc] at this
      · have := hat 2 (by omega); rwa [← Nat.add_assoc] at this
      · have := hat 3 (by omega); rwa [← Nat.add_assoc] at this
    have : Inhabited M.C := ⟨⟨0, 0, 0, 0⟩⟩
    obtain ⟨f, hfx⟩ := Go.Deep.choose_lt each
    refine ⟨_, n0, c0, (List.range n0).map f, rfl, by simp, hl, hm', fun x hx => ?_, fun _ => ⟨b, off, rfl, hb, fun i hi => ?_⟩⟩
    · obtain ⟨i, hi, rfl⟩ := List.mem_map.1 hx
      exact (hfx i (List.mem_range.1 hi)).1
    · have hin : i < n0 := by simpa using hi
      have e : ((List.range n0).map f)[i] = f i := by simp
      rw [e]
      exact (hfx i hin).2
theorem row_cells {cs : List Value} {x : DataW H × List MemPlace} (h : DataW.trod enc Try.prog w base (fun _ => true) held fuel 42 cs = some x) (hw : Light Try.prog 42 x.1) :
    ∃ y : X, cs = X.cells y ∧ RdX w w.heap.size y := by
  obtain ⟨f0, f1, f2, f3, hs, ⟨t0, o0⟩, ⟨t1, o1⟩, ⟨t2, o2⟩, ⟨t3, o3⟩⟩ := Try.rowStruct
  obtain ⟨hl, m, hf⟩ := open_fields hs h hw
  rw [Try.rowCells] at hl
  match cs, hl with
  | [c0, c1, c2, c3], _ =>
    obtain ⟨y0, g0, _⟩ := hf 0 f0 rfl
    obtain ⟨y1, g1, _⟩ := hf 1 f1 rfl
    obtain ⟨y2, g2, _⟩ := hf 2 f2 rfl
    obtain ⟨y3, g3, l3⟩ := hf 3 f3 rfl
    rw [t0, o0, Try.aU64Cells] at g0
    rw [t1, o1, Try.aU64Cells] at g1
    rw [t2, o2, Try.aIntCells] at g2
    rw [t3] at l3
    rw [t3, o3, Try.aIntsCells] at g3
    obtain ⟨k, rfl, hk⟩ := open_u64' Try.underlying37 g0
    obtain ⟨z1, rfl, hz1⟩ := open_u64' Try.underlying37 g1
    obtain ⟨z2, rfl, hz2⟩ := open_i64 Try.underlying3 g2
    have g3' : DataW.trod enc Try.prog w base (fun _ => true) held m 40 [c3] = some y3 := g3
    obtain ⟨A, n, c, ks, rfl, hr, hks⟩ := open_i64s Try.underlying40 Try.underlying3 Try.aIntCells g3'
    obtain ⟨A2, n2, c2, e2, hl2, _, hby, _⟩ := open_elems Try.underlying40 (by rw [Try.aIntCells]; omega) g3' l3
    injection e2 with e3 e4 e5
    subst e3 e4 e5
    rw [Try.aIntBytes] at hby
    simp only [reachBytes] at hby
    exact ⟨⟨⟨k, z1, z2, ks⟩, A, n, c⟩, rfl, hk, hz1, hz2, hr, hks, by simp only; omega⟩
theorem open_table {r : Reach} {b0 : Nat} {v : Value} {d : DataW H} {p : List MemPlace} (hv : Value.okWide Try.prog w r b0 24 v) (h : DataW.Trod enc Try.prog w base (fun _ => true) held 24 v d p) (hw : Light Try.prog 24 d) :
    ∃ (t : M.T) (A : Option Addr) (n c : Nat) (xs : List X), v = .agg #[.int .i64 t.nodes, .slice A n c] ∧ RdXs w w.heap.size A n c xs ∧ xs.map X.r = t.rows ∧ I64 t.nodes := by
  obtain ⟨f0, f1, hs, ⟨t0, o0⟩, ⟨t1, o1⟩⟩ := Try.tabStruct
  obtain ⟨cs, rfl, hsz⟩ := Go.WideShapes.okWide_struct hs hv
  obtain ⟨fuel, hf⟩ := h
  obtain ⟨hl, m, hff⟩ := open_fields hs hf hw
  obtain ⟨y0, g0, _⟩ := hff 0 f0 rfl
  obtain ⟨y1, g1, l1⟩ := hff 1 f1 rfl
  rw [Try.tabCells] at hl
  obtain ⟨csl⟩ := cs
  simp only [Value.cells] at hl g0 g1
  match csl, hl with
  | [c0, c1], _ =>
    rw [t0, o0, Try.aIntCells] at g0
    rw [t1] at l1
    rw [t1, o1, Try.aRowsCells] at g1
    obtain ⟨z, rfl, hz⟩ := open_i64 Try.underlying3 g0
    have g1' : DataW.trod enc Try.prog w base (fun _ => true) held m 22 [c1] = some y1 := g1
    obtain ⟨A, n, c, rfl, hl2, hm, hby, hel⟩ := open_elems Try.underlying22 Try.rowCells' g1' l1
    rw [Try.aRowBytes] at hby
    simp only [reachBytes] at hby
    have hm' : c ≤ 9223372036854775807 := by simpa only [maxLen] using hm
    rcases Nat.eq_zero_or_pos n with h0 | h0
    · subst h0
      exact ⟨⟨z, []⟩, A, 0, c, [], rfl, ⟨rfl, hl2, hm', by omega, fun h => absurd h (by omega), by simp⟩, rfl, hz⟩
    · obtain ⟨b, off, rfl, hb, m2, hi⟩ := hel h0
      have each : ∀ i, i < n → ∃ x : X, RdX w w.heap.size x ∧ At4 w b off i x := fun i hin => by
        obtain ⟨cs, y, hlen, hat, htr, hlt⟩ := hi i hin
        obtain ⟨a, rfl, hok⟩ := row_cells htr hlt
        rw [Try.rowCells] at hat
        refine ⟨a, hok, ?_, ?_, ?_, ?_⟩
        · have := hat 0 (by omega); rwa [Nat.add_zero] at this
        · have := hat 1 (by omega); rwa [← Nat.add_assoc] at this
        · have := hat 2 (by omega); rwa [← Nat.add_assoc] at this
        · have := hat 3 (by omega); rwa [← Nat.add_assoc] at this
      have : Inhabited X := ⟨⟨⟨0, 0, 0, []⟩, none, 0, 0⟩⟩
      obtain ⟨f, hfx⟩ := Go.Deep.choose_lt each
      refine ⟨⟨z, ((List.range n).map f).map X.r⟩, _, n, c, (List.range n).map f, rfl, ⟨by simp, hl2, hm', by omega, fun _ => ⟨b, off, rfl, hb, fun i hi => ?_⟩, fun x hx => ?_⟩, rfl, hz⟩
      · have hin : i < n := by simpa using hi
        have e : ((List.range n).map f)[i] = f i := by simp
        rw [e]
        exact (hfx i hin).2
      · obtain ⟨i, hi, rfl⟩ := List.mem_map.1 hx
        exact (hfx i (List.mem_range.1 hi)).1
end
end Go.Proofs.Ytghnelfgnfhclaa
