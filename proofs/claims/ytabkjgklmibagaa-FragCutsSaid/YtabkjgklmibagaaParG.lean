/-
  Contracts of package param: Get of the code as it landed.
-/
import Derived.Test.YtabkjgklmibagaaPar
import Derived.Laws.ResultCell
set_option linter.unusedVariables false
set_option linter.unusedSimpArgs false
namespace Go.Proofs.Ytabkjgklmibagaa.Par
open Go.ChangeShapes Go.WideShapes Go.ChangeAt Go.RowKit Go.Deep Go.Proofs.Ytabkjgklmibagaa.Words Go.Proofs.Ytabkjgklmibagaa.Oct

/-! ### Get -/
/-- A struct in a block of its own, handed back beside a plain slot. -/
theorem res_prm {fn : Func} {p u : Tmp} (h : fn.results = #[.cell p 74, .tmp u]) (tmps : Array Value) (w : World) (g : Nat) (u0 u1 : Value) (hp : tmps.getD p undef = .pointer (some ⟨g, 0, none⟩)) (hb : Blk w g 74 #[u0, u1]) :
    (results fn tmps).run Try.prog w = .ok (.tuple #[.agg #[u0, u1], tmps.getD u undef]) w := by
  rw [results_cell_tmp h, hp]
  have := run_loadVar_row (P := Try.prog) w g 74 74 #[u0, u1] (0, 0) _ hb Try.underlying74 rfl (by kernel_rfl)
  simp [asAddr, Result.andThen, this]
def lenV : Value → Nat
  | .slice _ n _ => n
  | _ => 0
end Go.Proofs.Ytabkjgklmibagaa.Par
