/-
  Contracts of package chunk's reader: what is refused, the rest, parameters, fragments, greetings.
-/
import Derived.Test.YtabkjgklmibagaaChMem
import Derived.Test.YtabkjgklmibagaaParG
import Derived.Test.YtabkjgklmibagaaStageT
set_option linter.unusedVariables false
set_option linter.unusedSimpArgs false
namespace Go.Proofs.Ytabkjgklmibagaa.Chk
open Go.ChangeShapes Go.WideShapes Go.ChangeAt Go.RowKit Go.Deep Go.Proofs.Ytabkjgklmibagaa.Words Go.Proofs.Ytabkjgklmibagaa.Oct Go.Proofs.Ytabkjgklmibagaa.Par

/-- The blocks that a reader of package chunk turns: the bytes' reader, its own, the chunk. -/
abbrev AtR (p r g : Nat) : Nat → Prop := fun i => i = p ∨ i = r ∨ i = g
section
variable {w V V' : World} {p G r g : Nat} {l l' : List UInt8} {bad bad' wr : Bool} {cs : Array Value}
end

/-- What a fragment of the wide kind is, as far as it was read. -/
def wideFrag (c : Ck) (l : List UInt8) : Ck :=
  if c.bg then { c with tsn := val 4 l, st := val 2 (cutL 4 l), mid := val 4 (cutL 8 l), pp := val 4 (cutL 12 l) }
  else { c with tsn := val 4 l, st := val 2 (cutL 4 l), mid := val 4 (cutL 8 l), fr := val 4 (cutL 12 l) }

end Go.Proofs.Ytabkjgklmibagaa.Chk
