/-
  The contracts of layer 1's functions (package serial).
-/
import Derived.Test.YtmbgjijajakgeaaDoorRows
import Derived.Test.YtmbgjijajakgeaaDoorSerPlain
import Derived.WalkKit
import Derived.ProofKit
namespace Go.Proofs.YtmbgjijajakgeaaDoor.Ser
open Go.ChangeShapes Go.WideShapes Go.ChangeAt Go.RowKit

theorem ret_int {k : IntKind} {a b : Int} (h : a = b) : Ending.returned (.int k a) = .returned (.int k b) := by rw [h]
theorem ret_bool {a b : Bool} (h : a = b) : Ending.returned (.bool a) = .returned (.bool b) := by rw [h]

set_option maxHeartbeats 400000 in
theorem dist_any (a b : Int) (w : World) :
    Calls Tryd.prog 18 #[.int .u32 a, .int .u32 b] w fun e w' => e = .returned (.int .u32 (dist a b)) ∧ w = w' := by
  go_enter Tryd.func18, Tryd.ntmps18
  go_wp2_with fail
  go_ret
  exact ⟨rfl, rfl⟩

/-! ### the document's answers (flumeref01) -/
set_option maxHeartbeats 400000 in
theorem rdist_any (a b : Int) (ha : 0 ≤ a ∧ a ≤ 4294967295) (hb : 0 ≤ b ∧ b ≤ 4294967295) (w : World) :
    Calls Tryd.prog 22 #[.int .u32 a, .int .u32 b] w fun e w' => e = .returned (.int .u64 (dist a b)) ∧ w = w' := by
  by_cases h : b < a
  · go_enter Tryd.func22, Tryd.ntmps22
    go_wp2_with fail
    go_ret
    exact ⟨ret_int (by unfold dist; omega), rfl⟩
  · go_enter Tryd.func22, Tryd.ntmps22
    go_wp2_with fail
    go_ret
    exact ⟨ret_int (by unfold dist; omega), rfl⟩

end Go.Proofs.YtmbgjijajakgeaaDoor.Ser
