/-
  What the laws' awake does; the law WordsTold.
-/
import Derived.Test.YtfapkpaohkdfpaaGreatDoorWordsH
namespace Go.Proofs.YtfapkpaohkdfpaaGreatDoor
open Go.RowKit Mem
set_option linter.unusedVariables false
set_option maxRecDepth 100000

def exText : ByteArray := ⟨#[82, 101, 100, 32, 97, 112, 112, 108, 101, 61, 71, 82, 69, 69, 78, 32, 114, 101, 100]⟩
theorem ex_terms : M.terms (bl exText) = [[97, 112, 112, 108, 101], [97, 112, 112, 108, 101, 61, 103, 114, 101, 101, 110], [103, 114, 101, 101, 110], [114, 101, 100]] := by decide +kernel
theorem ex_one : M.one (bl ⟨#[82, 101, 100]⟩) = false := by decide +kernel

end Go.Proofs.YtfapkpaohkdfpaaGreatDoor
