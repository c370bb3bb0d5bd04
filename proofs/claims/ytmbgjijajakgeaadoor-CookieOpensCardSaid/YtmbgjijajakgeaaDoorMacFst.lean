/-
  What the laws of package mac ask first, reckoned by the kernel.
-/
import Derived.Test.YtmbgjijajakgeaaDoorMacPl2
set_option linter.unusedVariables false
namespace Go.Proofs.YtmbgjijajakgeaaDoor.Sha
def jefe : List UInt8 := [74, 101, 102, 101]
def want : List UInt8 := [119, 104, 97, 116, 32, 100, 111, 32, 121, 97, 32, 119, 97, 110, 116, 32, 102, 111, 114, 32, 110, 111, 116, 104, 105, 110, 103, 63]
set_option maxRecDepth 100000 in
theorem hash_first : (hash [97, 98, 99]).getD 0 0 = 186 ∧ (hash [97, 98, 99]).getD 31 0 = 173 := by decide +kernel
set_option maxRecDepth 100000 in
theorem seal_first : (seal_ jefe want).getD 0 0 = 91 ∧ (seal_ jefe want).getD 31 0 = 67 := by decide +kernel
end Go.Proofs.YtmbgjijajakgeaaDoor.Sha
