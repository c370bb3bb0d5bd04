/-
  For MacSeals: slices cut, as laws of one operation.
-/
import Derived.Test.YtmbgjijajakgeaaDoorMacR3
set_option linter.unusedVariables false
set_option linter.unusedSimpArgs false
namespace Go.Proofs.YtmbgjijajakgeaaDoor.Sha
open Go.ChangeShapes Go.WideShapes Go.ChangeAt Go.RowKit Go.Proofs.YtmbgjijajakgeaaDoor.Words

theorem u8_size : (Tryd.prog.info? 5).map (·.size) = some 1 := by kernel_rfl
theorem size_of_u8 (w : World) : (sizeOf 5).run Tryd.prog w = .ok 1 w := by
  cases hq : Tryd.prog.info? 5 with
  | none => exfalso; have := u8_size; rw [hq] at this; cases this
  | some e =>
    have he : e.size = 1 := by have := u8_size; rw [hq] at this; simpa using this
    simp [sizeOf, typeInfo, hq, he]
theorem elem_u8 : Tryd.prog.elem 22 = 5 := by kernel_rfl
theorem exec_upto {ρ : Operand → Value} {o : Oper} {x y : Operand} {w : World} {A : Option Addr} {n c k : Nat} (ho : o.op = .slice 22 x none (some y) none) (hx : ρ x = .slice A n c) (hy : ρ y = .int .i64 (k : Int)) (hk : k ≤ c) :
    (execOp ρ o).run Tryd.prog w = .ok (.value (.slice A k c)) w := by
  have h := run_slice_h (P := Tryd.prog) (w := w) 22 A n c Tryd.underlying22 .i64 (k : Int) (by omega) (by omega)
  unfold execOp
  have hz : (if c = 0 then A else A.map fun x => x.add 0) = A := by
    split
    · rfl
    · cases A <;> simp [Addr.add]
  simp [ho, hx, hy, fun w => run_sliceAt_slice (P := Tryd.prog) w 22 (.slice A n c) none (some (.int .i64 (k : Int))) none Tryd.underlying22, h, elem_u8, size_of_u8, Result.andThen, sliced, hz]
theorem exec_from {ρ : Operand → Value} {o : Oper} {x y : Operand} {w : World} {A A' : Option Addr} {n c k n' c' : Nat} (ho : o.op = .slice 22 x (some y) none none) (hx : ρ x = .slice A n c) (hy : ρ y = .int .i64 (k : Int)) (hk : k ≤ n)
    (hA : A' = if c = k then A else A.map (·.add k)) (hn : n' = n - k) (hc : c' = c - k) :
    (execOp ρ o).run Tryd.prog w = .ok (.value (.slice A' n' c')) w := by
  subst hA hn hc
  have h := run_slice_l (P := Tryd.prog) (w := w) 22 A n c Tryd.underlying22 .i64 (k : Int) (by omega) (by omega)
  unfold execOp
  simp [ho, hx, hy, fun w => run_sliceAt_slice (P := Tryd.prog) w 22 (.slice A n c) (some (.int .i64 (k : Int))) none none Tryd.underlying22, h, elem_u8, size_of_u8, Result.andThen, sliced]
theorem exec_bools {P : Program} {ρ : Operand → Value} {o : Oper} {x y : Operand} {w : World} {t r : TypeId} (b : Bool) (ho : o.op = .binOp .eql t x y r) (hx : ρ x = .bool b) (hy : ρ y = .bool b) (ht : P.underlying t = some .bool) :
    (execOp ρ o).run P w = .ok (.value (.bool true)) w := by
  unfold execOp
  simp [ho, hx, hy, go_sem, ht]
theorem exec_alloc32 {ρ : Operand → Value} {o : Oper} {w : World} (ho : o.op = .alloc 41) : (execOp ρ o).run Tryd.prog w = .ok (.value (.pointer (some ⟨w.heap.size, 0, none⟩))) (w.alloc (.cells (V (Zb 32)) 41)) := by
  unfold execOp
  simp [ho, alloc_b32]
/-- A cell of 32 bytes that was made and not yet written. -/
def Zro (B : Nat) (v : Value) (W : World) : Prop := ∃ g, v = .pointer (some ⟨g, 0, none⟩) ∧ B ≤ g ∧ Blk W g 41 (V (Zb 32))
theorem Zro.below {B : Nat} {v : Value} {w w' : World} (h : Zro B v w) (hb : Below w.heap.size w w') : Zro B v w' := by
  obtain ⟨g, rfl, h1, h2⟩ := h
  exact ⟨g, rfl, h1, h2.below hb h2.lt⟩
theorem Zro.new {B : Nat} {w : World} (hB : B ≤ w.heap.size) : Zro B (.pointer (some ⟨w.heap.size, 0, none⟩)) (w.alloc (.cells (V (Zb 32)) 41)) := ⟨_, rfl, hB, Blk.new w _ _⟩
end Go.Proofs.YtmbgjijajakgeaaDoor.Sha
