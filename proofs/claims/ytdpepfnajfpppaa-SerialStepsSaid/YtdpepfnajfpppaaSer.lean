/-
  The contracts of layer 1's functions (package serial).
-/
import Derived.Test.YtdpepfnajfpppaaRows
import Derived.Test.YtdpepfnajfpppaaSerPlain
import Derived.WalkKit
import Derived.ProofKit
namespace Go.Proofs.Ytdpepfnajfpppaa.Ser
open Go.ChangeShapes Go.WideShapes Go.ChangeAt Go.RowKit

theorem ret_int {k : IntKind} {a b : Int} (h : a = b) : Ending.returned (.int k a) = .returned (.int k b) := by rw [h]
theorem ret_bool {a b : Bool} (h : a = b) : Ending.returned (.bool a) = .returned (.bool b) := by rw [h]

set_option maxHeartbeats 400000 in
theorem dist_any (a b : Int) (w : World) :
    Calls Try.prog 10 #[.int .u32 a, .int .u32 b] w fun e w' => e = .returned (.int .u32 (dist a b)) ∧ w = w' := by
  go_enter Try.func10, Try.ntmps10
  go_wp2_with fail
  go_ret
  exact ⟨rfl, rfl⟩

set_option maxHeartbeats 400000 in
theorem less_any (a b : Int) (w : World) :
    Calls Try.prog 12 #[.int .u32 a, .int .u32 b] w fun e w' => e = .returned (.bool (lessB a b)) ∧ w = w' := by
  have hb := dist_bd a b
  go_enter Try.func12, Try.ntmps12
  go_wp2_with (go_at_call 10; refine (dist_any _ _ _).mono ?_; rintro e w' ⟨rfl, rfl⟩)
  all_goals go_ret
  · exact ⟨ret_bool (lessB_mk0 (by omega)).symm, rfl⟩
  · exact ⟨ret_bool (by unfold lessB; rw [Bool.eq_iff_iff]; simp; omega), rfl⟩

set_option maxHeartbeats 400000 in
theorem less16_any (a b : Int) (w : World) :
    Calls Try.prog 14 #[.int .u16 a, .int .u16 b] w fun e w' => e = .returned (.bool (less16B a b)) ∧ w = w' := by
  go_enter Try.func14, Try.ntmps14
  go_wp2_with fail
  all_goals go_ret
  · exact ⟨ret_bool (less16B_mk0 (by have hw := dist16_wrap a b; omega)).symm, rfl⟩
  · exact ⟨ret_bool (by have hw := dist16_wrap a b; have hd := dist16_bd a b; unfold less16B; rw [Bool.eq_iff_iff]; simp; omega), rfl⟩

set_option maxHeartbeats 400000 in
theorem later_any (a b : Int) (w : World) :
    Calls Try.prog 16 #[.int .u32 a, .int .u32 b] w fun e w' => e = .returned (.int .u32 (laterI a b)) ∧ w = w' := by
  go_enter Try.func16, Try.ntmps16
  go_wp2_with (go_at_call 12; refine (less_any _ _ _).mono ?_; rintro e w' ⟨rfl, rfl⟩)
  all_goals go_ret
  · exact ⟨ret_int (by unfold laterI; rw [if_pos ‹_›]), rfl⟩
  · exact ⟨ret_int (by unfold laterI; rw [‹lessB a b = false›]; rfl), rfl⟩

set_option maxHeartbeats 400000 in
theorem in_any (x s t : Int) (w : World) :
    Calls Try.prog 17 #[.int .u32 x, .int .u32 s, .int .u32 t] w fun e w' => e = .returned (.bool (inB x s t)) ∧ w = w' := by
  go_enter Try.func17, Try.ntmps17
  go_wp2_with (go_at_call 10; refine (dist_any _ _ _).mono ?_; rintro e w' ⟨rfl, rfl⟩)
  go_ret
  exact ⟨ret_bool rfl, rfl⟩

/-! ### the document's answers (flumeref01) -/
set_option maxHeartbeats 400000 in
theorem rdist_any (a b : Int) (ha : 0 ≤ a ∧ a ≤ 4294967295) (hb : 0 ≤ b ∧ b ≤ 4294967295) (w : World) :
    Calls Try.prog 11 #[.int .u32 a, .int .u32 b] w fun e w' => e = .returned (.int .u64 (dist a b)) ∧ w = w' := by
  by_cases h : b < a
  · go_enter Try.func11, Try.ntmps11
    go_wp2_with fail
    go_ret
    exact ⟨ret_int (by unfold dist; omega), rfl⟩
  · go_enter Try.func11, Try.ntmps11
    go_wp2_with fail
    go_ret
    exact ⟨ret_int (by unfold dist; omega), rfl⟩

set_option maxHeartbeats 400000 in
theorem rless_any (a b : Int) (ha : 0 ≤ a ∧ a ≤ 4294967295) (hb : 0 ≤ b ∧ b ≤ 4294967295) (w : World) :
    Calls Try.prog 13 #[.int .u32 a, .int .u32 b] w fun e w' => e = .returned (.bool (lessB a b)) ∧ w = w' := by
  have hd := dist_bd a b
  go_enter Try.func13, Try.ntmps13
  go_wp2_with (go_at_call 11; refine (rdist_any _ _ (by omega) (by omega) _).mono ?_; rintro e w' ⟨rfl, rfl⟩)
  all_goals go_ret
  · exact ⟨ret_bool (by unfold lessB; rw [Bool.eq_iff_iff]; simp; omega), rfl⟩
  · exact ⟨ret_bool (lessB_mk0 (by omega)).symm, rfl⟩

set_option maxHeartbeats 400000 in
theorem rless16_any (a b : Int) (ha : 0 ≤ a ∧ a ≤ 65535) (hb : 0 ≤ b ∧ b ≤ 65535) (w : World) :
    Calls Try.prog 15 #[.int .u16 a, .int .u16 b] w fun e w' => e = .returned (.bool (less16B a b)) ∧ w = w' := by
  by_cases h : b < a
  · go_enter Try.func15, Try.ntmps15
    go_wp2_with fail
    all_goals go_ret
    all_goals exact ⟨ret_bool (by unfold less16B dist16; rw [Bool.eq_iff_iff]; simp; omega), rfl⟩
  · go_enter Try.func15, Try.ntmps15
    go_wp2_with fail
    all_goals go_ret
    all_goals exact ⟨ret_bool (by unfold less16B dist16; rw [Bool.eq_iff_iff]; simp; omega), rfl⟩

/-! ### the law's own first line -/
set_option maxHeartbeats 400000 in
theorem first_any (w : World) :
    Calls Try.prog 9 #[] w fun e w' => e = .returned (.bool true) ∧ w = w' := by
  have e1 : dist 4294967295 1 = 2 := by decide
  have e2 : lessB 4294967295 0 = true := by decide
  have e3 : lessB 0 2147483648 = false := by decide
  have e4 : less16B 65535 3 = true := by decide
  go_enter Try.func9, Try.ntmps9
  go_wp2_with (first
    | (go_at_call 10; refine (dist_any _ _ _).mono ?_; rintro e w' ⟨rfl, rfl⟩)
    | (go_at_call 12; refine (less_any _ _ _).mono ?_; rintro e w' ⟨rfl, rfl⟩)
    | (go_at_call 14; refine (less16_any _ _ _).mono ?_; rintro e w' ⟨rfl, rfl⟩))
  go_ret
  exact ⟨rfl, rfl⟩

end Go.Proofs.Ytdpepfnajfpppaa.Ser
