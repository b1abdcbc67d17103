/-
  From the rows' list of package-level variables to what the contracts of layer 12 ask ('Vars'); a world that holds them.
-/
import Derived.Test.YtdbinhbmhkbfeaaGreatDoorHttpC
import Derived.Lib.LaidU8
import Derived.LaidSub
import Derived.MakeChecks
import Derived.HandedShaped
import Derived.Deep.DeepHandedRow
import Derived.Deep.DeepWitnessRowRef
namespace Go.Proofs.YtdbinhbmhkbfeaaGreatDoor
open Go.RowKit
set_option maxRecDepth 100000

def laidList : List (String × DataW Unit) := [("math/bits.deBruijn32tab", Rows.laid_math_bits_deBruijn32tab), ("math/bits.deBruijn64tab", Rows.laid_math_bits_deBruijn64tab), ("internal/strconv.uint64pow10", Rows.laid_internal_strconv_uint64pow10), ("unicode/utf8.acceptRanges", Rows.laid_unicode_utf8_acceptRanges), ("strconv.ErrRange", Rows.laid_strconv_ErrRange), ("strconv.ErrSyntax", Rows.laid_strconv_ErrSyntax), ("unicode/utf8.first", Rows.laid_unicode_utf8_first)]
theorem first_eq : (Rows.laid_unicode_utf8_first : DataW Unit) = Lib.firstData := by kernel_rfl
theorem accept_eq : (Rows.laid_unicode_utf8_acceptRanges : DataW Unit) = Lib.acceptData := by kernel_rfl
theorem pow_eq : (Rows.laid_internal_strconv_uint64pow10 : DataW Unit) = Lib.tabData .u64 Lib.pow10Tab := by kernel_rfl
theorem plainList : (laidList.all fun x => x.2.handleName?.isNone) = true := by kernel_rfl
theorem u8extra : U8Extra Tryz.prog Tryz.lays260_ren where
  n3 := by kernel_rfl
  n4 := by kernel_rfl
  y3 := by kernel_rfl
  y4 := by kernel_rfl
  c5 := by kernel_rfl
  c119 := by kernel_rfl
  c138 := by kernel_rfl
theorem yPow : (Tryz.prog.globals[1]?).map (·.type) = some 91 := by kernel_rfl
theorem cU64 : Tryz.prog.cellsOf 67 = 1 := by kernel_rfl
theorem cPow : Tryz.prog.cellsOf 91 = 20 := by kernel_rfl
theorem nSyn : Tryz.prog.globalNamed "strconv.ErrSyntax" = some 2 := by kernel_rfl
theorem nRan : Tryz.prog.globalNamed "strconv.ErrRange" = some 3 := by kernel_rfl
theorem ySyn : (Tryz.prog.globals[2]?).map (·.type) = some 55 := by kernel_rfl
theorem yRan : (Tryz.prog.globals[3]?).map (·.type) = some 55 := by kernel_rfl
theorem iface_cell {W : World} {n nm : String} {g : Nat} {d : DataW Unit} (hn : Tryz.prog.globalNamed n = some g) (hy : (Tryz.prog.globals[g]?).map (·.type) = some 55) (h : Lib.VarReads Tryz.prog W n (.iface nm d)) :
    ∃ tp p, W.cell? ⟨g, 0, none⟩ = some (.iface tp p) := by
  obtain ⟨g', t, cs, fuel, p, hg, hty, hvar, hd⟩ := h
  obtain rfl := Option.some.inj (hn.symm.trans hg)
  obtain rfl := Option.some.inj (hy.symm.trans hty)
  obtain ⟨f1, u, v, hcs, _, _⟩ := iface_of_trod Tryz.underlying55 hd
  refine ⟨u, v, ?_⟩
  rw [World.var?_cell hg hvar 0, ← Array.getElem?_toList, hcs]
  rfl
theorem vars_of_laid {W : World} (h : laidMetH Tryz.prog laidList W) (hsh : W.ShapedOpen Tryz.prog) : Vars W := by
  rw [MakeChecks.laidMetH_plain _ _ _ plainList] at h
  have h1 := Lib.laidMet.reads h (n := "unicode/utf8.first") (d := Rows.laid_unicode_utf8_first) (by simp [laidList])
  have h2 := Lib.laidMet.reads h (n := "unicode/utf8.acceptRanges") (d := Rows.laid_unicode_utf8_acceptRanges) (by simp [laidList])
  have h3 := Lib.laidMet.reads h (n := "internal/strconv.uint64pow10") (d := Rows.laid_internal_strconv_uint64pow10) (by simp [laidList])
  have h4 := Lib.laidMet.reads h (n := "strconv.ErrRange") (d := Rows.laid_strconv_ErrRange) (by simp [laidList])
  have h5 := Lib.laidMet.reads h (n := "strconv.ErrSyntax") (d := Rows.laid_strconv_ErrSyntax) (by simp [laidList])
  rw [first_eq] at h1
  rw [accept_eq] at h2
  rw [pow_eq] at h3
  refine ⟨utf8Tabs_of_reads Tryz.lays260 u8extra h1 h2, ?_, ?_, iface_cell nSyn ySyn h5, iface_cell nRan yRan h4⟩
  · obtain ⟨g', t, cs, fuel, p, hg, hty, hvar, hd⟩ := h3
    obtain rfl := Option.some.inj (gPow.symm.trans hg)
    obtain rfl := Option.some.inj (yPow.symm.trans hty)
    have hcs := Lib.cells_of_tab Tryz.underlying91 Tryz.underlying67 cU64 cPow hd
    unfold Lib.TabIs
    rw [hvar, ← hcs]
  · exact cell_of_shapedOpen_int (P := Tryz.prog) (g := 0) (t := 3) (zero := #[.int .i64 0]) hsh (of_decide_eq_true (by kernel_rfl)) (by kernel_rfl) rfl (by kernel_rfl) (by kernel_rfl) Tryz.underlying3

/-- the cells of a variable's block -/
def putAll (cs : List Value) : Obj → Obj
  | .cells _ t frozen => .cells cs.toArray t frozen
  | o => o
noncomputable def low : Nat := (World.holding Tryz.prog default ⟨#[], #[], []⟩).heap.size
def ints8 (d : DataW Unit) : List Value := match d with
  | .agg ds => ds.map fun x => match x with | .lit (.int k z) => Value.int k z | _ => undef
  | _ => []
/-- a world for the witness: the settled one, each listed variable holding what the library lays -/
noncomputable def laidWorld (os : Os) : World :=
  let w0 := World.holding Tryz.prog os ⟨#[.cells #[.string ⟨#[118, 97, 108, 117, 101, 32, 111, 117, 116, 32, 111, 102, 32, 114, 97, 110, 103, 101]⟩] 120, .cells #[.string ⟨#[105, 110, 118, 97, 108, 105, 100, 32, 115, 121, 110, 116, 97, 120]⟩] 120], #[], []⟩
  let h1 := w0.heap.modify 6 (putAll ((List.range 256).map fun c => Value.int .u8 (Lib.firstT c : Int)))
  let h2 := h1.modify 7 (putAll ((List.range 16).flatMap fun i => [Value.int .u8 (Lib.accLo i : Int), Value.int .u8 (Lib.accHi i : Int)]))
  let h3 := h2.modify 4 (putAll (ints8 Rows.laid_math_bits_deBruijn32tab))
  let h4 := h3.modify 5 (putAll (ints8 Rows.laid_math_bits_deBruijn64tab))
  let h5 := h4.modify 1 (putAll (Lib.pow10Tab.map fun z => Value.int .u64 z))
  let h6 := h5.modify 3 (putAll [.iface 118 (.pointer (some ⟨low, 0, none⟩))])
  let h7 := h6.modify 2 (putAll [.iface 118 (.pointer (some ⟨low + 1, 0, none⟩))])
  { w0 with heap := h7 }
theorem laid_met (os : Os) (args : Array Value) (ha : ((laidWorld os).forCall (fun _ _ => 0) ⟨#[], args, []⟩).memory = ((laidWorld os).forCall (fun _ _ => 0) ⟨#[], #[], []⟩).memory) : laidMet Tryz.prog laidList ((laidWorld os).forCall (fun _ _ => 0) ⟨#[], args, []⟩).memory := by
  rw [ha]
  exact laidMet_of_run' 8 (by kernel_rfl) (by kernel_rfl)
end Go.Proofs.YtdbinhbmhkbfeaaGreatDoor
