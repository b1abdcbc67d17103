/-
  The rows of layer 16 list three of the library's tables, of which the contracts ask nothing; a world that holds them, for the witness.
-/
import Derived.Test.YtjdkpcibdjhdoaaDoorCopyJ
import Derived.Lib.ItoaNum
import Derived.Lib.LaidU8
import Derived.LaidSub
import Derived.MakeChecks
import Derived.Deep.DeepHandedRow
namespace Go.Proofs.YtjdkpcibdjhdoaaDoor
open Go.RowKit
set_option maxRecDepth 100000

def laidList : List (String × DataW Unit) := [("math/bits.deBruijn32tab", Rows.laid_math_bits_deBruijn32tab), ("math/bits.deBruijn64tab", Rows.laid_math_bits_deBruijn64tab), ("internal/strconv.uint64pow10", Rows.laid_internal_strconv_uint64pow10)]
def Vars (_ : World) : Prop := True
theorem vars_of_laid {W : World} (_ : laidMetH Tryd.prog laidList W) : Vars W := trivial

/-- the cells of a variable's block -/
def putAll (cs : List Value) : Obj → Obj
  | .cells _ t frozen => .cells cs.toArray t frozen
  | o => o
def ints8 (d : DataW Unit) : List Value := match d with
  | .agg ds => ds.map fun x => match x with | .lit (.int k z) => Value.int k z | _ => undef
  | _ => []
/-- a world for the witness: the settled one, each listed variable holding what the library lays -/
noncomputable def laidWorld (os : Os) : World :=
  { World.holding Tryd.prog os ⟨#[], #[], []⟩ with heap := (((World.holding Tryd.prog os ⟨#[], #[], []⟩).heap.modify 1 (putAll (ints8 Rows.laid_math_bits_deBruijn32tab))).modify 2 (putAll (ints8 Rows.laid_math_bits_deBruijn64tab))).modify 0 (putAll (ints8 Rows.laid_internal_strconv_uint64pow10)) }
end Go.Proofs.YtjdkpcibdjhdoaaDoor
