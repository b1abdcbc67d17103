/-
  What the document's ReadFrame does, by a contract: it answers 'M.rdFrame' of the bytes and the place, the payload where it stands.
-/
import Derived.Test.YtjdkpcibdjhdoaaDoorPackJ
import Derived.Deep.RegionHeld
namespace Go.Proofs.YtjdkpcibdjhdoaaDoor
open Go.RowKit Mem

end Go.Proofs.YtjdkpcibdjhdoaaDoor
