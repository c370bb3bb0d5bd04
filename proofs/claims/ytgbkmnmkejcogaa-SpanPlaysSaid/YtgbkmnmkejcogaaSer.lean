/-
  The contracts of layer 1's functions (package serial).
-/
import Derived.Test.YtgbkmnmkejcogaaRows
import Derived.Test.YtgbkmnmkejcogaaSerPlain
import Derived.WalkKit
import Derived.ProofKit
namespace Go.Proofs.Ytgbkmnmkejcogaa.Ser
open Go.ChangeShapes Go.WideShapes Go.ChangeAt Go.RowKit

theorem ret_int {k : IntKind} {a b : Int} (h : a = b) : Ending.returned (.int k a) = .returned (.int k b) := by rw [h]
theorem ret_bool {a b : Bool} (h : a = b) : Ending.returned (.bool a) = .returned (.bool b) := by rw [h]

set_option maxHeartbeats 400000 in
theorem dist_any (a b : Int) (w : World) :
    Calls Try.prog 42 #[.int .u32 a, .int .u32 b] w fun e w' => e = .returned (.int .u32 (dist a b)) ∧ w = w' := by
  go_enter Try.func42, Try.ntmps42
  go_wp2_with fail
  go_ret
  exact ⟨rfl, rfl⟩

set_option maxHeartbeats 400000 in
theorem less_any (a b : Int) (w : World) :
    Calls Try.prog 32 #[.int .u32 a, .int .u32 b] w fun e w' => e = .returned (.bool (lessB a b)) ∧ w = w' := by
  have hb := dist_bd a b
  go_enter Try.func32, Try.ntmps32
  go_wp2_with (go_at_call 42; refine (dist_any _ _ _).mono ?_; rintro e w' ⟨rfl, rfl⟩)
  all_goals go_ret
  · exact ⟨ret_bool (lessB_mk0 (by omega)).symm, rfl⟩
  · exact ⟨ret_bool (by unfold lessB; rw [Bool.eq_iff_iff]; simp; omega), rfl⟩

set_option maxHeartbeats 400000 in
theorem in_any (x s t : Int) (w : World) :
    Calls Try.prog 46 #[.int .u32 x, .int .u32 s, .int .u32 t] w fun e w' => e = .returned (.bool (inB x s t)) ∧ w = w' := by
  go_enter Try.func46, Try.ntmps46
  go_wp2_with (go_at_call 42; refine (dist_any _ _ _).mono ?_; rintro e w' ⟨rfl, rfl⟩)
  go_ret
  exact ⟨ret_bool rfl, rfl⟩

/-! ### the document's answers (flumeref01) -/
set_option maxHeartbeats 400000 in
theorem rdist_any (a b : Int) (ha : 0 ≤ a ∧ a ≤ 4294967295) (hb : 0 ≤ b ∧ b ≤ 4294967295) (w : World) :
    Calls Try.prog 39 #[.int .u32 a, .int .u32 b] w fun e w' => e = .returned (.int .u64 (dist a b)) ∧ w = w' := by
  by_cases h : b < a
  · go_enter Try.func39, Try.ntmps39
    go_wp2_with fail
    go_ret
    exact ⟨ret_int (by unfold dist; omega), rfl⟩
  · go_enter Try.func39, Try.ntmps39
    go_wp2_with fail
    go_ret
    exact ⟨ret_int (by unfold dist; omega), rfl⟩

set_option maxHeartbeats 400000 in
theorem rless_any (a b : Int) (ha : 0 ≤ a ∧ a ≤ 4294967295) (hb : 0 ≤ b ∧ b ≤ 4294967295) (w : World) :
    Calls Try.prog 37 #[.int .u32 a, .int .u32 b] w fun e w' => e = .returned (.bool (lessB a b)) ∧ w = w' := by
  have hd := dist_bd a b
  go_enter Try.func37, Try.ntmps37
  go_wp2_with (go_at_call 39; refine (rdist_any _ _ (by omega) (by omega) _).mono ?_; rintro e w' ⟨rfl, rfl⟩)
  all_goals go_ret
  · exact ⟨ret_bool (by unfold lessB; rw [Bool.eq_iff_iff]; simp; omega), rfl⟩
  · exact ⟨ret_bool (lessB_mk0 (by omega)).symm, rfl⟩

end Go.Proofs.Ytgbkmnmkejcogaa.Ser
