/-
  The document's ReadFrame hands back a part of the bytes that it was given: the contract of the text before, once more, with that.
-/
import Derived.Test.YtjdkpcibdjhdoaaDoorPackO
namespace Go.Proofs.YtjdkpcibdjhdoaaDoor
open Go.RowKit Mem

def TellsIn (B : Nat) (r : List UInt8 × Nat × Nat) (w : World) (e : Ending) (w' : World) : Prop :=
  ∃ A n c, e = .returned (.tuple #[.slice A n c, .int .i64 (r.2.1 : Int), .int .i64 (r.2.2 : Int)]) ∧ Rd w' B A n c r.1 ∧ Below w.heap.size w w'

end Go.Proofs.YtjdkpcibdjhdoaaDoor
