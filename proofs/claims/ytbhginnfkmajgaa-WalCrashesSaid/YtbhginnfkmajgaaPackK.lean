/-
  What the document's ReadFrame does, by a contract: it answers 'M.rdFrame' of the bytes and the place, the payload where it stands.
-/
import Derived.Test.YtbhginnfkmajgaaPackJ
import Derived.Deep.RegionHeld
namespace Go.Proofs.Ytbhginnfkmajgaa
open Go.RowKit Mem

end Go.Proofs.Ytbhginnfkmajgaa
