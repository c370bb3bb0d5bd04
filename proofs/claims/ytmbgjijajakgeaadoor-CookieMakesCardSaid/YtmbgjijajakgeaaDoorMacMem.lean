/-
  Arrays as rows of cells: words of 32 bits (U), bytes (V); what allocates, loads, stores and indexes them.
-/
import Derived.Test.YtmbgjijajakgeaaDoorMac1
import Derived.Great.Ranges
import Derived.Laws.CopyOwn
set_option linter.unusedVariables false
set_option linter.unusedSimpArgs false
namespace Go.Proofs.YtmbgjijajakgeaaDoor.Sha
open Go.ChangeShapes Go.WideShapes Go.ChangeAt Go.RowKit Go.Proofs.YtmbgjijajakgeaaDoor.Words

def u32s (l : List Nat) : List Value := l.map fun (n : Nat) => Value.int .u32 (n : Int)
def U (l : List Nat) : Array Value := (u32s l).toArray
def V (l : List UInt8) : Array Value := (u8s l).toArray
theorem U_size (l : List Nat) : (U l).size = l.length := by simp [U, u32s]
theorem V_size (l : List UInt8) : (V l).size = l.length := by simp [V, u8s]
theorem U_get (l : List Nat) (i : Nat) : (U l)[i]? = l[i]?.map fun (n : Nat) => Value.int .u32 (n : Int) := by simp [U, u32s]
theorem V_get (l : List UInt8) (i : Nat) : (V l)[i]? = l[i]?.map fun b => .int .u8 (b.toNat : Int) := by simp [V, u8s]
theorem U_at {l : List Nat} {i : Nat} (h : i < l.length) : (U l)[i]? = some (.int .u32 ((l.getD i 0 : Nat) : Int)) := by rw [U_get, List.getD_eq_getElem?_getD, List.getElem?_eq_getElem h]; rfl
theorem V_at {l : List UInt8} {i : Nat} (h : i < l.length) : (V l)[i]? = some (.int .u8 ((l.getD i 0).toNat : Int)) := by rw [V_get, List.getD_eq_getElem?_getD, List.getElem?_eq_getElem h]; rfl
theorem U_set (l : List Nat) (i x : Nat) : (U l).setIfInBounds i (.int .u32 (x : Int)) = U (l.set i x) := by
  apply Array.ext'
  simp [U, u32s, List.map_set]
theorem V_set (l : List UInt8) (i : Nat) (x : UInt8) : (V l).setIfInBounds i (.int .u8 (x.toNat : Int)) = V (l.set i x) := by
  apply Array.ext'
  simp [V, u8s, List.map_set]
theorem U_one (l : List Nat) : (U l).all (·.oneCell') = true := by simp [U, u32s, Value.oneCell']
theorem V_one (l : List UInt8) : (V l).all (·.oneCell') = true := by simp [V, u8s, Value.oneCell']
/-- Noughts (named, so that no simp writes them out). -/
def Zs (n : Nat) : List Nat := List.replicate n 0
def Zb (n : Nat) : List UInt8 := List.replicate n 0
theorem U_zero (n : Nat) : Array.replicate n (Value.int .u32 0) = U (Zs n) := by
  apply Array.ext'
  simp [U, u32s, Zs]
theorem V_zero (n : Nat) : Array.replicate n (Value.int .u8 0) = V (Zb n) := by
  apply Array.ext'
  simp [V, u8s, Zb]

section
variable {P : Program}
theorem run_index_agg (t e : TypeId) (n : Nat) (cs : Array Value) (k : Nat) (v : Value) (ht : P.underlying t = some (.array n e)) (he : (P.info? e).map (·.size) = some 1) (d : TypeDesc) (hd : P.underlying e = some d) (hda : (match d with | .struct _ | .array _ _ => false | _ => true) = true)
    (hk : k < n) (hv : cs[k]? = some v) (w : World) : (Instr.index t (.agg cs) (.int .i64 (k : Int))).run P w = .ok v w := by
  cases hq : P.info? e with
  | none => simp [hq] at he
  | some i =>
    have hi : i.size = 1 := by simpa [hq] using he
    unfold Instr.index
    simp only [asIntOf, Sem.run_bind, Sem.run_pure, Result.andThen_ok, run_underlying ht]
    rw [if_pos (by omega)]
    have hagg : (isAgg e).run P w = .ok false w := by
      unfold isAgg
      rw [Sem.run_bind, run_underlying hd w]
      cases d <;> simp_all
    simp [sizeOf, typeInfo, hq, hi, part, hagg, hv]
end

theorem wp_alloc_run {P : Program} (w : World) {o : Oper} {a : Act} {K : Act → World → Prop} {Q : Exit → Act → World → Prop} (t : TypeId) (ho : o.op = .alloc t) {v' : Value} {w' : World}
    (hr : (Instr.alloc t true (.tuple #[])).run P w = .ok v' w') (h : K (a.put o.dst v') w') : o.wp P a w K Q := by
  unfold Oper.wp execOp
  simp only [ho, Sem.run_bind, Sem.run_pure, Result.andThen_ok, hr]
  exact h
theorem wpList_alloc_run {P : Program} (w : World) {ops : Array Oper} {rest : List Oper} {o : Oper} {a : Act} {Q : Exit → Act → World → Prop} (hgd : o.guard = none) (t : TypeId) (ho : o.op = .alloc t) {v' : Value} {w' : World}
    (hr : (Instr.alloc t true (.tuple #[])).run P w = .ok v' w') (h : wpList P ops Q rest (a.put o.dst v') w') : wpList P ops Q (o :: rest) a w :=
  wpList_plain hgd fun _ hK => wp_alloc_run w t ho hr (hK _ _ h)
theorem run_alloc_agg {P : Program} {t : TypeId} {cs : Array Value} {n : Nat} (h : (P.info? t).map (fun i => (i.zero, i.size)) = some (some (.agg cs), n)) (w : World) :
    (Instr.alloc t true (.tuple #[])).run P w = .ok (.pointer (some ⟨w.heap.size, 0, none⟩)) (w.alloc (.cells cs t)) := by
  cases hq : P.info? t with
  | none => simp [hq] at h
  | some i =>
    have hz : (zeroValue t).run P w = .ok (.agg cs) w := by
      simp [hq] at h
      simp [zeroValue, typeInfo, hq, h.1]
    simp [Instr.alloc, hz, newVar, newRow, Value.cells]

theorem info_w64 : (Tryd.prog.info? 91).map (fun i => (i.zero, i.size)) = some (some (.agg (Array.replicate 64 (.int .u32 0))), 64) := by kernel_rfl
theorem info_w8 : (Tryd.prog.info? 80).map (fun i => (i.zero, i.size)) = some (some (.agg (Array.replicate 8 (.int .u32 0))), 8) := by kernel_rfl
theorem info_b64 : (Tryd.prog.info? 67).map (fun i => (i.zero, i.size)) = some (some (.agg (Array.replicate 64 (.int .u8 0))), 64) := by kernel_rfl
theorem info_b32 : (Tryd.prog.info? 41).map (fun i => (i.zero, i.size)) = some (some (.agg (Array.replicate 32 (.int .u8 0))), 32) := by kernel_rfl
theorem alloc_w64 (w : World) : (Instr.alloc 91 true (.tuple #[])).run Tryd.prog w = .ok (.pointer (some ⟨w.heap.size, 0, none⟩)) (w.alloc (.cells (U (Zs 64)) 91)) := by rw [← U_zero]; exact run_alloc_agg info_w64 w
theorem alloc_w8 (w : World) : (Instr.alloc 80 true (.tuple #[])).run Tryd.prog w = .ok (.pointer (some ⟨w.heap.size, 0, none⟩)) (w.alloc (.cells (U (Zs 8)) 80)) := by rw [← U_zero]; exact run_alloc_agg info_w8 w
theorem alloc_b64 (w : World) : (Instr.alloc 67 true (.tuple #[])).run Tryd.prog w = .ok (.pointer (some ⟨w.heap.size, 0, none⟩)) (w.alloc (.cells (V (Zb 64)) 67)) := by rw [← V_zero]; exact run_alloc_agg info_b64 w
theorem alloc_b32 (w : World) : (Instr.alloc 41 true (.tuple #[])).run Tryd.prog w = .ok (.pointer (some ⟨w.heap.size, 0, none⟩)) (w.alloc (.cells (V (Zb 32)) 41)) := by rw [← V_zero]; exact run_alloc_agg info_b32 w
theorem size_w64 : (Tryd.prog.info? 91).map (·.size) = some 64 := by kernel_rfl
theorem size_w8 : (Tryd.prog.info? 80).map (·.size) = some 8 := by kernel_rfl
theorem size_b64 : (Tryd.prog.info? 67).map (·.size) = some 64 := by kernel_rfl
theorem size_b32 : (Tryd.prog.info? 41).map (·.size) = some 32 := by kernel_rfl
theorem ix_b64 {l : List UInt8} (hl : l.length = 64) {k : Nat} (hk : k < 64) (w : World) : (Instr.index 67 (.agg (V l)) (.int .i64 (k : Int))).run Tryd.prog w = .ok (.int .u8 ((l.getD k 0).toNat : Int)) w :=
  run_index_agg _ _ 64 _ k _ Tryd.underlying67 (by kernel_rfl) _ Tryd.underlying5 rfl hk (V_at (by omega)) w
theorem ix_w64 {l : List Nat} (hl : l.length = 64) {k : Nat} (hk : k < 64) (w : World) : (Instr.index 91 (.agg (U l)) (.int .i64 (k : Int))).run Tryd.prog w = .ok (.int .u32 ((l.getD k 0 : Nat) : Int)) w :=
  run_index_agg _ _ 64 _ k _ Tryd.underlying91 (by kernel_rfl) _ Tryd.underlying23 rfl hk (U_at (by omega)) w
theorem ix_w8 {l : List Nat} (hl : l.length = 8) {k : Nat} (hk : k < 8) (w : World) : (Instr.index 80 (.agg (U l)) (.int .i64 (k : Int))).run Tryd.prog w = .ok (.int .u32 ((l.getD k 0 : Nat) : Int)) w :=
  run_index_agg _ _ 8 _ k _ Tryd.underlying80 (by kernel_rfl) _ Tryd.underlying23 rfl hk (U_at (by omega)) w
end Go.Proofs.YtmbgjijajakgeaaDoor.Sha
