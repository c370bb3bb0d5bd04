/-
  For the laws of package mac: appends and stores in regions that draw their order.
-/
import Derived.Test.YtmbgjijajakgeaaDoorMac13
set_option linter.unusedVariables false
set_option linter.unusedSimpArgs false
namespace Go.Proofs.YtmbgjijajakgeaaDoor.Sha
open Go.ChangeShapes Go.WideShapes Go.ChangeAt Go.RowKit Go.Proofs.YtmbgjijajakgeaaDoor.Words

theorem exec_append {P : Program} {ρ : Operand → Value} {o : Oper} {s x : Operand} {t tn : TypeId} {w w' : World} {vs vx v' : Value} (ho : o.op = .call { callee := .builtin .append, args := #[s, x], argTypes := #[t, tn] }) (hs : ρ s = vs) (hx : ρ x = vx)
    (hr : (Builtin.append_ #[t, tn] o.type #[vs, vx]).run P w = .ok v' w') : (execOp ρ o).run P w = .ok (.value v') w' := by
  unfold execOp
  simp only [ho, resolve, invoke, builtin, Sem.run_bind, Sem.run_pure, Result.andThen_ok, List.map_toArray, List.map_cons, List.map_nil, hs, hx, hr]
theorem exec_store32 {ρ : Operand → Value} {o : Oper} {x y : Operand} {w : World} {g : Nat} {s l : List UInt8} (ho : o.op = .store 41 x y) (hx : ρ x = .pointer (some ⟨g, 0, none⟩)) (hy : ρ y = .agg (V s)) (hb : Blk w g 41 (V l)) (hs : s.length = 32) (hl : l.length = 32) :
    (execOp ρ o).run Tryd.prog w = .ok .skip (w.setRow g (V s)) := by
  unfold execOp
  simp only [ho, hx, hy, Instr.storeAt, Instr.sureAddr, Sem.run_bind, Sem.run_pure, Result.andThen_ok, run_storeVar_row (P := Tryd.prog) w g 41 41 (V l) (V s) hb (by rw [V_size, hs]; exact size_b32) (by rw [V_size, V_size, hs, hl]) (V_one _)]
theorem wpList_restore32 {ops : Array Oper} {rest : List Oper} {o : Oper} {a : Act} {w : World} {Q : Exit → Act → World → Prop} {g : Nat} {s l : List UInt8} (hgd : o.guard = none) (x y : Operand) (ho : o.op = .store 41 x y) (hx : a.eval x = .pointer (some ⟨g, 0, none⟩)) (hy : a.eval y = .agg (V s))
    (hb : Blk w g 41 (V l)) (hs : s.length = 32) (hl : l.length = 32)
    (h : wpList Tryd.prog ops Q rest (a.put o.dst undef) (w.setRow g (V s))) : wpList Tryd.prog ops Q (o :: rest) a w :=
  wpList_store_row hgd 41 x y ho g (V s) hx hy 41 (V l) hb (by rw [V_size, hs]; exact size_b32) (by rw [V_size, V_size, hs, hl]) (V_one _) h
theorem blk_other {w : World} {g g' : Nat} {t : TypeId} {cs xs : Array Value} (h : Blk w g t cs) (hne : g ≠ g') : Blk (w.setRow g' xs) g t cs := (setRow_other w g' g xs (fun e => hne e)).trans h
def put64 (w : World) (s l : List UInt8) : World := (((w.alloc (.cells (V (Zb 32)) 41)).alloc (.cells (V (Zb 32)) 41)).setRow w.heap.size (V s)).setRow (w.heap.size + 1) (V l)
theorem put64_below (w : World) (s l : List UInt8) : Below w.heap.size w (put64 w s l) := below_setRow (below_setRow ((below_new w _).alloc (by simp) _) (Nat.le_refl _) _) (by omega) _
theorem put64_mid (w : World) (s : List UInt8) : Blk (((w.alloc (.cells (V (Zb 32)) 41)).alloc (.cells (V (Zb 32)) 41)).setRow w.heap.size (V s)) (w.heap.size + 1) 41 (V (Zb 32)) :=
  blk_other (by simpa using Blk.new (w.alloc (.cells (V (Zb 32)) 41)) 41 (V (Zb 32))) (by omega)
theorem put64_blk (w : World) (s l : List UInt8) : Blk (put64 w s l) w.heap.size 41 (V s) ∧ Blk (put64 w s l) (w.heap.size + 1) 41 (V l) :=
  ⟨blk_other (setRow_heap _ _ _ _ _ _ ((Blk.new w _ _).alloc _)) (by omega), setRow_heap _ _ _ _ _ _ (put64_mid w s)⟩
theorem zb_length (n : Nat) : (Zb n).length = n := by simp [Zb]
end Go.Proofs.YtmbgjijajakgeaaDoor.Sha
