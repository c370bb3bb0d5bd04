/-
  For CookieTurned: a region that draws in which a key is written out, a call is made and its cookie is put away.
-/
import Derived.Test.YtmbgjijajakgeaaDoorCk8
set_option linter.unusedVariables false
set_option linter.unusedSimpArgs false
namespace Go.Proofs.YtmbgjijajakgeaaDoor.Cok
open Go.ChangeShapes Go.WideShapes Go.ChangeAt Go.RowKit Go.Deep Go.Proofs.YtmbgjijajakgeaaDoor.Words Go.Proofs.YtmbgjijajakgeaaDoor.Oct Go.Proofs.YtmbgjijajakgeaaDoor.Sha

/-- What may turn within such a region, from block B on: bytes that are marked as a constant's, cookies. -/
structure TRel (B : Nat) (V V' : World) : Prop where
  size : V.heap.size ≤ V'.heap.size
  block : ∀ g, g < V.heap.size → V'.heap[g]? = V.heap[g]? ∨ (∃ C, V.heap[g]? = some (.cells C 5 (0, 0)) ∧ V'.heap[g]? = some (.cells C 5 (C.size, C.size + 1))) ∨
    (∃ a b, V.heap[g]? = some (.cells (ckA a) 26 (0, 0)) ∧ V'.heap[g]? = some (.cells (ckA b) 26 (0, 0)))
theorem TRel.refl (B : Nat) (V : World) : TRel B V V := ⟨Nat.le_refl _, fun _ _ => .inl rfl⟩
theorem TRel.of_below {B : Nat} {V V' : World} (h : Below V.heap.size V V') : TRel B V V' := ⟨h.size, fun g hg => .inl (h.block g hg)⟩
/-- A key that was written out. -/
def KeyF (B : Nat) (l : List UInt8) (v : Value) (V : World) : Prop := ∃ g fr, v = .slice (some ⟨g, 0, none⟩) l.length l.length ∧ B ≤ g ∧ V.heap[g]? = some (.cells (Sha.V l) 5 fr) ∧ (fr = (0, 0) ∨ fr = (l.length, l.length + 1))
theorem lt_heap {V : World} {g : Nat} {o : Obj} (h : V.heap[g]? = some o) : g < V.heap.size := (Array.getElem?_eq_some_iff.1 h).1
theorem KeyF.lasts {B : Nat} {l : List UInt8} {v : Value} {V V' : World} (h : KeyF B l v V) (k : TRel B V V') : KeyF B l v V' := by
  obtain ⟨g, fr, rfl, hB, hg, hf⟩ := h
  rcases k.block g (lt_heap hg) with e | ⟨C, e1, e2⟩ | ⟨a, b, e1, _⟩
  · exact ⟨g, fr, rfl, hB, e.trans hg, hf⟩
  · rw [hg] at e1
    cases e1
    exact ⟨g, _, rfl, hB, e2, .inr (by rw [Sha.V_size])⟩
  · rw [hg] at e1
    exfalso
    injection e1 with e1
    injection e1 with _ h2
    exact absurd h2 (by decide)
theorem KeyF.new {B : Nat} {V : World} (l : List UInt8) (hB : B ≤ V.heap.size) : KeyF B l (.slice (some ⟨V.heap.size, 0, none⟩) l.length l.length) (V.alloc (.cells (Sha.V l) 5)) :=
  ⟨V.heap.size, (0, 0), rfl, hB, heap_alloc_new V _, .inl rfl⟩
theorem KeyF.ptv {B : Nat} {l : List UInt8} {v : Value} {V : World} (h : KeyF B l v V) (hl : l.length ≤ 1000) : PtV V V.heap.size v l := by
  obtain ⟨g, fr, rfl, hB, hg, hf⟩ := h
  exact .mk rfl (Nat.le_refl _) (by omega) (byt_of_heap (t := 5) (fr := fr) hg (lt_heap hg) (by rw [List.take_of_length_le (by simp [Sha.V, u8s_length])]; rfl))
/-- The conversion of a constant's bytes, wherever they lie. -/
theorem KeyF.conv {B : Nat} {l : List UInt8} {v : Value} {W V : World} (h : KeyF B l v V) (hW : Below B W V) :
    ∃ V', (convert 22 22 v).run Tryd.prog V = .ok v V' ∧ TRel B V V' ∧ KeyF B l v V' ∧ Below B W V' := by
  obtain ⟨g, fr, rfl, hB, hg, hf⟩ := h
  have hlt := lt_heap hg
  have hsh : V.shape? g = some (5, (Sha.V l).size) := by unfold World.shape?; rw [hg]
  have hnew : (V.freeze ⟨g, (Sha.V l).size, none⟩ 1).heap[g]? = some (.cells (Sha.V l) 5 (l.length, l.length + 1)) := by
    unfold World.freeze
    rw [if_neg (by decide)]
    show (V.heap.modify g _)[g]? = _
    rw [Array.getElem?_modify, if_pos rfl, hg]
    rcases hf with rfl | rfl
    · simp [Sha.V_size]
    · simp [Sha.V_size]
  have hoth : ∀ k, k ≠ g → (V.freeze ⟨g, (Sha.V l).size, none⟩ 1).heap[k]? = V.heap[k]? := by
    intro k hk
    unfold World.freeze
    rw [if_neg (by decide)]
    show (V.heap.modify g _)[k]? = _
    rw [Array.getElem?_modify, if_neg (fun e => hk e.symm)]
  have hsz : (V.freeze ⟨g, (Sha.V l).size, none⟩ 1).heap.size = V.heap.size := by unfold World.freeze; rw [if_neg (by decide)]; simp
  refine ⟨V.freeze ⟨g, (Sha.V l).size, none⟩ 1, ?_, ⟨by omega, fun k hk => ?_⟩, ⟨g, _, rfl, hB, hnew, .inr rfl⟩, ⟨hW.os, hW.tape, hW.output, by rw [hsz]; exact hW.size, fun k hk => (hoth k (by omega)).trans (hW.block k hk)⟩⟩
  · simp [convert, run_underlying Tryd.underlying22, run_underlying Tryd.underlying5, markStringish, hsh]
  · by_cases e : k = g
    · subst e
      rcases hf with rfl | rfl
      · exact .inr (.inl ⟨_, hg, by rw [hnew, Sha.V_size]⟩)
      · exact .inl (hnew.trans hg.symm)
    · exact .inl (hoth k e)
/-- A cell for a cookie. -/
def CkF (B : Nat) (v : Value) (V : World) : Prop := ∃ g c, v = .pointer (some ⟨g, 0, none⟩) ∧ B ≤ g ∧ Blk V g 26 (ckA c)
theorem CkF.lasts {B : Nat} {v : Value} {V V' : World} (h : CkF B v V) (k : TRel B V V') : CkF B v V' := by
  obtain ⟨g, c, rfl, hB, hg⟩ := h
  rcases k.block g hg.lt with e | ⟨C, e1, _⟩ | ⟨a, b, _, e2⟩
  · exact ⟨g, c, rfl, hB, e.trans hg⟩
  · unfold Blk at hg
    rw [hg] at e1
    exfalso
    injection e1 with e1
    injection e1 with _ h2
    exact absurd h2 (by decide)
  · exact ⟨g, b, rfl, hB, e2⟩
theorem exec_allocCk {ρ : Operand → Value} {o : Oper} {w : World} (ho : o.op = .alloc 26) : (execOp ρ o).run Tryd.prog w = .ok (.value (.pointer (some ⟨w.heap.size, 0, none⟩))) (w.alloc (.cells (ckA zeroCK) 26)) := by
  unfold execOp
  simp [ho, alloc_ck]
theorem exec_storeCk {ρ : Operand → Value} {o : Oper} {x y : Operand} {w : World} {g : Nat} {a b : CK} (ho : o.op = .store 26 x y) (hx : ρ x = .pointer (some ⟨g, 0, none⟩)) (hy : ρ y = .agg (ckA b)) (hb : Blk w g 26 (ckA a)) :
    (execOp ρ o).run Tryd.prog w = .ok .skip (w.setRow g (ckA b)) := by
  unfold execOp
  simp only [ho, hx, hy, Instr.storeAt, Instr.sureAddr, Sem.run_bind, Sem.run_pure, Result.andThen_ok, run_storeVar_row (P := Tryd.prog) w g 26 26 (ckA a) (ckA b) hb (ck_size _) rfl (ck_one _)]
theorem CkF.store {B : Nat} {W V : World} {v : Value} {b : CK} (h : CkF B v V) (hW : Below B W V) : ∃ g, v = .pointer (some ⟨g, 0, none⟩) ∧ ∃ a, Blk V g 26 (ckA a) ∧ TRel B V (V.setRow g (ckA b)) ∧ Below B W (V.setRow g (ckA b)) := by
  obtain ⟨g, c, rfl, hB, hg⟩ := h
  refine ⟨g, rfl, c, hg, ⟨by simp [World.setRow], fun k hk => ?_⟩, below_setRow hW hB _⟩
  by_cases e : k = g
  · subst e
    exact .inr (.inr ⟨c, b, hg, setRow_heap _ _ _ _ _ _ hg⟩)
  · exact .inl (setRow_other V g k _ e)
theorem wpList_eqCk {ops : Array Oper} {rest : List Oper} {o : Oper} {A : Act} {w : World} {Q : Exit → Act → World → Prop} (hgd : Region.wanted o (yielded ops A.tmps) = true) (x y : Operand) (r : TypeId) (ho : o.op = .binOp .eql 26 x y r) (c : CK)
    (hx : A.eval x = .agg (ckA c)) (hy : A.eval y = .agg (ckA c)) (h : wpList Tryd.prog ops Q rest (A.put o.dst (.bool true)) w) : wpList Tryd.prog ops Q (o :: rest) A w :=
  BigFrame.wpList_want hgd fun _ hK => by
    unfold Oper.wp execOp
    simp only [ho, hx, hy, Sem.run_bind, Sem.run_pure, Result.andThen_ok, eqg_ck, eq_ck]
    exact hK _ _ h
theorem wpList_neqCk {ops : Array Oper} {rest : List Oper} {o : Oper} {A : Act} {w : World} {Q : Exit → Act → World → Prop} (hgd : Region.wanted o (yielded ops A.tmps) = true) (x y : Operand) (r : TypeId) (ho : o.op = .binOp .neq 26 x y r) (c : CK)
    (hx : A.eval x = .agg (ckA c)) (hy : A.eval y = .agg (ckA c)) (h : wpList Tryd.prog ops Q rest (A.put o.dst (.bool false)) w) : wpList Tryd.prog ops Q (o :: rest) A w :=
  BigFrame.wpList_want hgd fun _ hK => by
    unfold Oper.wp execOp
    simp only [ho, hx, hy, Sem.run_bind, Sem.run_pure, Result.andThen_ok, eqg_ck, neq_ck]
    exact hK _ _ h
theorem wpList_loadCk {ops : Array Oper} {rest : List Oper} {o : Oper} {A : Act} {w : World} {Q : Exit → Act → World → Prop} (hgd : Region.wanted o (yielded ops A.tmps) = true) (x : Operand) (ho : o.op = .load 26 x) (g : Nat) (c : CK)
    (hx : A.eval x = .pointer (some ⟨g, 0, none⟩)) (hb : Blk w g 26 (ckA c)) (h : wpList Tryd.prog ops Q rest (A.put o.dst (.agg (ckA c))) w) : wpList Tryd.prog ops Q (o :: rest) A w :=
  wpList_load_row_want hgd 26 x ho g hx 26 (ckA c) (0, 0) _ hb Tryd.underlying26 rfl (ck_size _) h
end Go.Proofs.YtmbgjijajakgeaaDoor.Cok
