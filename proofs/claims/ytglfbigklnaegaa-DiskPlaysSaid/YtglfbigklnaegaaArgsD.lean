/-
  The laws' arguments of layer 2: numbers, acts.
-/
import Derived.Test.YtglfbigklnaegaaRows
import Derived.Test.YtglfbigklnaegaaOpen
namespace Go.Proofs.Ytglfbigklnaegaa
open Go.RowKit Mem
set_option linter.unusedVariables false
set_option maxRecDepth 100000

theorem Try.aIntCells : Try.prog.cellsOf 3 = 1 := by kernel_rfl
theorem Try.aBytesCells : Try.prog.cellsOf 32 = 1 := by kernel_rfl
theorem Try.aIntsCells : Try.prog.cellsOf 33 = 1 := by kernel_rfl
theorem Try.aByteCells : Try.prog.cellsOf 5 = 1 := by kernel_rfl
theorem Try.aStrCells : Try.prog.cellsOf 9 = 1 := by kernel_rfl
theorem Try.aByteBytes : Try.prog.bytesOf 5 = 1 := by kernel_rfl

section
variable {H : Type} {enc : TypeId × Value → H} {w : World} {base fuel : Nat} {held : Bool}
theorem open_ints_arg {r : Reach} {b0 : Nat} {v : Value} {d : DataW H} {p : List MemPlace} (hv : Value.okWide Try.prog w r b0 33 v) (h : DataW.Trod enc Try.prog w base (fun _ => true) held 33 v d p) (hw : Light Try.prog 33 d) :
    ∃ A n c, ∃ ks : List Int, v = .slice A n c ∧ RdV w w.heap.size A n c (ks.map (Value.int .i64)) ∧ ∀ k ∈ ks, -9223372036854775808 ≤ k ∧ k ≤ 9223372036854775807 := by
  obtain ⟨A0, n0, c0, rfl⟩ := Go.WideShapes.okWide_slice Try.underlying33 hv
  obtain ⟨fuel, hf⟩ := h
  exact open_i64s Try.underlying33 Try.underlying3 Try.aIntCells (v := .slice A0 n0 c0) (by simpa [Value.cells] using hf)
end

/-- an act: a call of a disk -/
structure ActD where
  kind : Nat
  name : ByteArray
  to : ByteArray
  A : Option Addr
  n : Nat
  c : Nat
  l : List UInt8
  num : Int
  A' : Option Addr
  n' : Nat
  c' : Nat
  ks : List Int
instance : Inhabited ActD := ⟨⟨0, ByteArray.empty, ByteArray.empty, none, 0, 0, [], 0, none, 0, 0, []⟩⟩
def ActD.cells (x : ActD) : List Value := [.int .u8 x.kind, .string x.name, .string x.to, .slice x.A x.n x.c, .int .i64 x.num, .slice x.A' x.n' x.c']
def ActD.ok (w : World) (B : Nat) (x : ActD) : Prop := x.kind < 256 ∧ x.name.size ≤ 9223372036854775807 ∧ x.to.size ≤ 9223372036854775807 ∧ Rd w B x.A x.n x.c x.l ∧ x.c ≤ 140737488351232 ∧ (-9223372036854775808 ≤ x.num ∧ x.num ≤ 9223372036854775807) ∧
  RdV w B x.A' x.n' x.c' (x.ks.map (Value.int .i64)) ∧ ∀ k ∈ x.ks, -9223372036854775808 ≤ k ∧ k ≤ 9223372036854775807
def RdActs (w : World) (B : Nat) (A : Option Addr) (n c : Nat) (xs : List ActD) : Prop :=
  n = xs.length ∧ n ≤ c ∧ c ≤ 9223372036854775807 ∧ (∀ x ∈ xs, x.ok w B) ∧ (0 < n → ∃ b off, A = some ⟨b, off, none⟩ ∧ b < B ∧ ∀ i (hi : i < xs.length) j, j < 6 → w.cell? ⟨b, off + i * 6 + j, none⟩ = xs[i].cells[j]?)

section
variable {w w' : World} {B n c : Nat} {A : Option Addr} {xs : List ActD}
theorem ActD.ok.below {x : ActD} (h : x.ok w B) (hb : Below B w w') : x.ok w' B := by
  obtain ⟨h1, h2, h3, h4, h5, h6, h7, h8⟩ := h
  exact ⟨h1, h2, h3, h4.below hb, h5, h6, h7.below hb, h8⟩
theorem RdActs.below (h : RdActs w B A n c xs) (hb : Below B w w') : RdActs w' B A n c xs := by
  obtain ⟨h1, h2, h3, h4, h5⟩ := h
  refine ⟨h1, h2, h3, fun x hx => (h4 x hx).below hb, fun hn => ?_⟩
  obtain ⟨b, off, e, hb1, hc⟩ := h5 hn
  exact ⟨b, off, e, hb1, fun i hi j hj => (hb.cell (p := ⟨b, off + i * 6 + j, none⟩) hb1).trans (hc i hi j hj)⟩
end

theorem Try.actStruct : ∃ f0 f1 f2 f3 f4 f5 : Field, Try.prog.underlying 35 = some (.struct #[f0, f1, f2, f3, f4, f5]) ∧ (f0.type = 5 ∧ f0.offset = 0) ∧ (f1.type = 9 ∧ f1.offset = 1) ∧ (f2.type = 9 ∧ f2.offset = 2) ∧ (f3.type = 32 ∧ f3.offset = 3) ∧ (f4.type = 3 ∧ f4.offset = 4) ∧ (f5.type = 33 ∧ f5.offset = 5) :=
  ⟨_, _, _, _, _, _, Try.underlying35, ⟨rfl, rfl⟩, ⟨rfl, rfl⟩, ⟨rfl, rfl⟩, ⟨rfl, rfl⟩, ⟨rfl, rfl⟩, ⟨rfl, rfl⟩⟩
theorem Try.actCells : Try.prog.cellsOf 35 = 6 := by kernel_rfl
theorem Try.actCells' : 0 < Try.prog.cellsOf 35 := by rw [Try.actCells]; omega

section
variable {H : Type} {enc : TypeId × Value → H} {w : World} {base fuel : Nat} {held : Bool}
theorem act_cells {cs : List Value} {x : DataW H × List MemPlace} (h : DataW.trod enc Try.prog w base (fun _ => true) held fuel 35 cs = some x) (hw : Light Try.prog 35 x.1) :
    ∃ a : ActD, cs = a.cells ∧ a.ok w w.heap.size := by
  obtain ⟨f0, f1, f2, f3, f4, f5, hs, ⟨t0, o0⟩, ⟨t1, o1⟩, ⟨t2, o2⟩, ⟨t3, o3⟩, ⟨t4, o4⟩, ⟨t5, o5⟩⟩ := Try.actStruct
  obtain ⟨hl, m, hf⟩ := open_fields hs h hw
  rw [Try.actCells] at hl
  match cs, hl with
  | [c0, c1, c2, c3, c4, c5], _ =>
    obtain ⟨y0, g0, _⟩ := hf 0 f0 rfl
    obtain ⟨y1, g1, _⟩ := hf 1 f1 rfl
    obtain ⟨y2, g2, _⟩ := hf 2 f2 rfl
    obtain ⟨y3, g3, l3⟩ := hf 3 f3 rfl
    obtain ⟨y4, g4, _⟩ := hf 4 f4 rfl
    obtain ⟨y5, g5, _⟩ := hf 5 f5 rfl
    rw [t0, o0, Try.aByteCells] at g0
    rw [t1, o1, Try.aStrCells] at g1
    rw [t2, o2, Try.aStrCells] at g2
    rw [t3] at l3
    rw [t3, o3, Try.aBytesCells] at g3
    rw [t4, o4, Try.aIntCells] at g4
    rw [t5, o5, Try.aIntsCells] at g5
    obtain ⟨k, rfl, hk⟩ := open_u8 Try.underlying5 g0
    obtain ⟨s1, rfl, hs1⟩ := open_str Try.underlying9 g1
    obtain ⟨s2, rfl, hs2⟩ := open_str Try.underlying9 g2
    obtain ⟨A, n, c, l, rfl, hr, hc⟩ := open_bytes Try.underlying32 Try.underlying5 Try.aByteCells Try.aByteBytes g3 l3
    obtain ⟨z, rfl, hz1, hz2⟩ := open_i64 Try.underlying3 g4
    obtain ⟨A', n', c', ks, rfl, hr', hks⟩ := open_i64s Try.underlying33 Try.underlying3 Try.aIntCells g5
    exact ⟨⟨k, s1, s2, A, n, c, l, z, A', n', c', ks⟩, rfl, hk, hs1, hs2, hr, hc, ⟨hz1, hz2⟩, hr', hks⟩

theorem open_acts {r : Reach} {b0 : Nat} {v : Value} {d : DataW H} {p : List MemPlace} (hv : Value.okWide Try.prog w r b0 22 v) (h : DataW.Trod enc Try.prog w base (fun _ => true) held 22 v d p) (hw : Light Try.prog 22 d) :
    ∃ A n c xs, v = .slice A n c ∧ RdActs w w.heap.size A n c xs := by
  obtain ⟨A0, n0, c0, rfl⟩ := Go.WideShapes.okWide_slice Try.underlying22 hv
  obtain ⟨fuel, hf⟩ := h
  obtain ⟨A, n, c, hcs, hl, hm, _, hel⟩ := open_elems Try.underlying22 Try.actCells' (v := .slice A0 n0 c0) (by simpa [Value.cells] using hf) hw
  injection hcs with e1 e2 e3
  subst e1 e2 e3
  have hm' : c0 ≤ 9223372036854775807 := by simpa only [maxLen] using hm
  rcases Nat.eq_zero_or_pos n0 with h0 | h0
  · subst h0
    exact ⟨A0, 0, c0, [], rfl, rfl, hl, hm', by simp, fun h => absurd h (by omega)⟩
  · obtain ⟨b, off, rfl, hb, m, hi⟩ := hel h0
    have each : ∀ i, i < n0 → ∃ x : ActD, x.ok w w.heap.size ∧ ∀ j, j < 6 → w.cell? ⟨b, off + i * 6 + j, none⟩ = x.cells[j]? := fun i hin => by
      obtain ⟨cs, y, hlen, hat, htr, hlt⟩ := hi i hin
      obtain ⟨a, rfl, hok⟩ := act_cells htr hlt
      rw [Try.actCells] at hat
      exact ⟨a, hok, fun j hj => by have := hat j hj; rwa [← Nat.add_assoc] at this⟩
    obtain ⟨f, hfx⟩ := Go.Deep.choose_lt each
    refine ⟨_, n0, c0, (List.range n0).map f, rfl, by simp, hl, hm', fun x hx => ?_, fun _ => ⟨b, off, rfl, hb, fun i hi j hj => ?_⟩⟩
    · obtain ⟨i, hi, rfl⟩ := List.mem_map.1 hx
      exact (hfx i (List.mem_range.1 hi)).1
    · have hin : i < n0 := by simpa using hi
      have e : ((List.range n0).map f)[i] = f i := by simp
      rw [e]
      exact (hfx i hin).2 j hj
end
end Go.Proofs.Ytglfbigklnaegaa
