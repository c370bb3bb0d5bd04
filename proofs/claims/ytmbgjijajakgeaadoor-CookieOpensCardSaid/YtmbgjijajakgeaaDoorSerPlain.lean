/-
  The plain arithmetic of serial numbers: no Go in sight.
-/
import Derived.IntWalk
import Derived.OpenShut
namespace Go.Proofs.YtmbgjijajakgeaaDoor.Ser
set_option linter.unusedVariables false
open Go Go.ChangeShapes Go.WideShapes

/-- from a up to b, round the end -/
def dist (a b : Int) : Int := (b - a) % 4294967296
def lessB (a b : Int) : Bool := decide (1 ≤ dist a b ∧ dist a b ≤ 2147483647)
/-- the same of sixteen bits -/
def dist16 (a b : Int) : Int := (b - a) % 65536
def less16B (a b : Int) : Bool := decide (1 ≤ dist16 a b ∧ dist16 a b ≤ 32767)
def laterI (a b : Int) : Int := if lessB a b = true then b else a
def inB (x s t : Int) : Bool := decide (dist s x ≤ dist s t)

theorem dist_bd (a b : Int) : 0 ≤ dist a b ∧ dist a b ≤ 4294967295 := by unfold dist; omega
theorem dist16_bd (a b : Int) : 0 ≤ dist16 a b ∧ dist16 a b ≤ 65535 := by unfold dist16; omega
theorem lessB_yes {a b : Int} (h : lessB a b = true) : 1 ≤ dist a b ∧ dist a b ≤ 2147483647 := of_decide_eq_true h
theorem lessB_no {a b : Int} (h : lessB a b = false) : ¬ (1 ≤ dist a b ∧ dist a b ≤ 2147483647) := of_decide_eq_false h
theorem lessB_mk {a b : Int} (h : 1 ≤ dist a b ∧ dist a b ≤ 2147483647) : lessB a b = true := decide_eq_true h
theorem lessB_mk0 {a b : Int} (h : ¬ (1 ≤ dist a b ∧ dist a b ≤ 2147483647)) : lessB a b = false := decide_eq_false h
theorem less16B_mk {a b : Int} (h : 1 ≤ dist16 a b ∧ dist16 a b ≤ 32767) : less16B a b = true := decide_eq_true h
theorem less16B_mk0 {a b : Int} (h : ¬ (1 ≤ dist16 a b ∧ dist16 a b ≤ 32767)) : less16B a b = false := decide_eq_false h
theorem inB_mk {x s t : Int} (h : dist s x ≤ dist s t) : inB x s t = true := decide_eq_true h
theorem inB_mk0 {x s t : Int} (h : ¬ dist s x ≤ dist s t) : inB x s t = false := decide_eq_false h
theorem dist_wrap (a b : Int) : IntKind.u32.wrap (b - a) = dist a b := by rw [IntKind.wrap_u32]; rfl
theorem dist16_wrap (a b : Int) : IntKind.u16.wrap (b - a) = dist16 a b := by simp [IntKind.wrap, IntKind.bits, IntKind.signed, dist16]
theorem laterI_bd {a b : Int} (ha : 0 ≤ a ∧ a ≤ 4294967295) (hb : 0 ≤ b ∧ b ≤ 4294967295) : 0 ≤ laterI a b ∧ laterI a b ≤ 4294967295 := by
  unfold laterI; split <;> assumption
theorem later_yes {a b : Int} (h : lessB a b = true) : laterI a b = b := by unfold laterI; rw [if_pos h]
theorem later_no {a b : Int} (h : lessB a b = false) : laterI a b = a := by unfold laterI; rw [h]; rfl
theorem u16_bd (a : Int) : 0 ≤ IntKind.u16.wrap a ∧ IntKind.u16.wrap a ≤ 65535 := by simp [IntKind.wrap, IntKind.bits, IntKind.signed]; omega
theorem u16_wrap (a : Int) : IntKind.u16.wrap a = a % 65536 := by simp [IntKind.wrap, IntKind.bits, IntKind.signed]
theorem u32_bd (a : Int) : 0 ≤ IntKind.u32.wrap a ∧ IntKind.u32.wrap a ≤ 4294967295 := by rw [IntKind.wrap_u32]; omega
/-- moved on by the same: nothing changes -/
theorem dist_turn (a b y : Int) : dist ((a + y) % 4294967296) ((b + y) % 4294967296) = dist a b := by unfold dist; omega
theorem less_turn (a b y : Int) : lessB ((a + y) % 4294967296) ((b + y) % 4294967296) = lessB a b := by unfold lessB; rw [dist_turn]
theorem later_turn (a b y : Int) (ha : 0 ≤ a ∧ a ≤ 4294967295) (hb : 0 ≤ b ∧ b ≤ 4294967295) : laterI ((a + y) % 4294967296) ((b + y) % 4294967296) = (laterI a b + y) % 4294967296 := by
  unfold laterI; rw [less_turn]; split <;> rfl
theorem in_turn (a b y : Int) (hy : 0 ≤ y ∧ y ≤ 4294967295) : inB ((a + y) % 4294967296) y ((b + y) % 4294967296) = inB a 0 b := by
  unfold inB
  have e1 : dist y ((a + y) % 4294967296) = dist 0 a := by unfold dist; omega
  have e2 : dist y ((b + y) % 4294967296) = dist 0 b := by unfold dist; omega
  rw [e1, e2]
end Go.Proofs.YtmbgjijajakgeaaDoor.Ser
