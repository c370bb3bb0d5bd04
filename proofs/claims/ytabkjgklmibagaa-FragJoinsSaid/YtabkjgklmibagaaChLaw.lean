/-
  What the laws of layer 6 share: how great a chunk is; what must be answered ahead of everything else.
-/
import Derived.Test.YtabkjgklmibagaaChPut
import Derived.Test.YtabkjgklmibagaaChGet
set_option linter.unusedVariables false
set_option linter.unusedSimpArgs false
namespace Go.Proofs.Ytabkjgklmibagaa.Chk
open Go.ChangeShapes Go.WideShapes Go.ChangeAt Go.RowKit Go.Deep Go.Proofs.Ytabkjgklmibagaa.Words Go.Proofs.Ytabkjgklmibagaa.Oct Go.Proofs.Ytabkjgklmibagaa.Par

/-- How great a chunk's lists are. -/
def sizeC (c : Ck) : Nat := 4 * c.gaps.length + 4 * c.dups.length + 8 * c.skips.length + c.body.length + sizeL c.ps
theorem max_i (a b : Nat) : (if (b : Int) > (a : Int) then (b : Int) else (a : Int)) = ((max a b : Nat) : Int) := by
  rw [Nat.max_def]
  split <;> split <;> omega
theorem run_max_int5 {P : Program} (w : World) (ts : Array TypeId) (t : TypeId) (x y z u v : Int) : (Builtin.max_ ts t #[.int .i64 x, .int .i64 y, .int .i64 z, .int .i64 u, .int .i64 v]).run P w = .ok (.int .i64 (max (max (max (max x y) z) u) v)) w := by
  have e : ∀ a b : Int, (if a < b then b else a) = max a b := fun a b => by rw [Int.max_def]; split <;> split <;> omega
  simp [Builtin.max_, Builtin.max2, e]
theorem sizeL_take_succ {ls : List Prm} {k : Nat} {p : Prm} (h : ls[k]? = some p) : sizeL (ls.take (k + 1)) = sizeL (ls.take k) + (4 + p.2.length) := by
  rw [take_snoc h]
  simp [sizeL]

end Go.Proofs.Ytabkjgklmibagaa.Chk
