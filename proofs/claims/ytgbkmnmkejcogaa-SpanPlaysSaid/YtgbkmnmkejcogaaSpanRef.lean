/-
  The document's set (flumeref02): how it lies in memory; move, settle.
-/
import Derived.Test.YtgbkmnmkejcogaaSpanTwo
import Derived.Deep.WholeRow
import Derived.Laws.Rows
set_option linter.unusedVariables false
set_option linter.unusedSimpArgs false
namespace Go.Proofs.Ytgbkmnmkejcogaa.Span
open Go.ChangeShapes Go.WideShapes Go.ChangeAt Go.RowKit Go.Proofs.Ytgbkmnmkejcogaa.Ser

theorem wp_alloc_run {P : Program} (w : World) {o : Oper} {a : Act} {K : Act → World → Prop} {Q : Exit → Act → World → Prop} (t : TypeId) (ho : o.op = .alloc t) {v' : Value} {w' : World}
    (hr : (Instr.alloc t true (.tuple #[])).run P w = .ok v' w') (h : K (a.put o.dst v') w') : o.wp P a w K Q := by
  unfold Oper.wp execOp
  simp only [ho, Sem.run_bind, Sem.run_pure, Result.andThen_ok, hr]
  exact h
theorem wpList_alloc_run {P : Program} (w : World) {ops : Array Oper} {rest : List Oper} {o : Oper} {a : Act} {Q : Exit → Act → World → Prop} (hgd : o.guard = none) (t : TypeId) (ho : o.op = .alloc t) {v' : Value} {w' : World}
    (hr : (Instr.alloc t true (.tuple #[])).run P w = .ok v' w') (h : wpList P ops Q rest (a.put o.dst v') w') : wpList P ops Q (o :: rest) a w :=
  wpList_plain hgd fun _ hK => wp_alloc_run w t ho hr (hK _ _ h)
theorem wp_store_run {P : Program} (w : World) {o : Oper} {a : Act} {K : Act → World → Prop} {Q : Exit → Act → World → Prop} (t : TypeId) (x y : Operand) (ho : o.op = .store t x y) {vx vy : Value} (hx : a.eval x = vx) (hy : a.eval y = vy) {w' : World}
    (hr : (Instr.storeAt t vx vy).run P w = .ok () w') (h : K (a.put o.dst (.tuple #[])) w') : o.wp P a w K Q := by
  unfold Oper.wp execOp
  simp only [ho, hx, hy, Sem.run_bind, Sem.run_pure, Result.andThen_ok, hr]
  exact h
theorem wpList_store_run {P : Program} (w : World) {ops : Array Oper} {rest : List Oper} {o : Oper} {a : Act} {Q : Exit → Act → World → Prop} (hgd : o.guard = none) (t : TypeId) (x y : Operand) (ho : o.op = .store t x y) {vx vy : Value} (hx : a.eval x = vx) (hy : a.eval y = vy) {w' : World}
    (hr : (Instr.storeAt t vx vy).run P w = .ok () w') (h : wpList P ops Q rest (a.put o.dst (.tuple #[])) w') : wpList P ops Q (o :: rest) a w :=
  wpList_plain hgd fun _ hK => wp_store_run w t x y ho hx hy hr (hK _ _ h)

theorem arr_info : (Try.prog.info? 43).map (fun i => (i.zero, i.size)) = some (some (.agg (Array.replicate 4097 (.bool false))), 4097) := by kernel_rfl
theorem run_alloc_arr (w : World) : (Instr.alloc 43 true (.tuple #[])).run Try.prog w = .ok (.pointer (some ⟨w.heap.size, 0, none⟩)) (w.alloc (.cells (Array.replicate 4097 (.bool false)) 43)) := by
  have hz := (zero_of_info arr_info).1
  simp [Instr.alloc, hz, newVar, newRow, Value.cells]

/-- The cells of the document's set: the mark, then what is known, by distance. -/
structure RefCells (cs : Array Value) (M : Int) (K : Nat → Bool) : Prop where
  size : cs.size = 4098
  mark : cs[0]? = some (.int .u32 M)
  known : ∀ d, d < 4097 → cs[d + 1]? = some (.bool (K d))
/-- The document's set behind the pointer to block q. -/
structure RefAt (w : World) (B q : Nat) (M : Int) (K : Nat → Bool) : Prop where
  hq : B ≤ q
  hM : 0 ≤ M ∧ M ≤ 4294967295
  blk : ∃ cs, Blk w q 45 cs ∧ RefCells cs M K
theorem RefAt.below {w w' : World} {B q : Nat} {M : Int} {K : Nat → Bool} (h : RefAt w B q M K) (hb : Below w.heap.size w w') : RefAt w' B q M K := by
  obtain ⟨h1, h2, cs, h3, h4⟩ := h
  exact ⟨h1, h2, cs, h3.below hb h3.lt, h4⟩
theorem RefAt.congr {w : World} {B q : Nat} {M : Int} {K K' : Nat → Bool} (h : RefAt w B q M K) (hk : ∀ d, d < 4097 → K d = K' d) : RefAt w B q M K' := by
  obtain ⟨h1, h2, cs, h3, h4⟩ := h
  exact ⟨h1, h2, cs, h3, h4.size, h4.mark, fun d hd => by rw [h4.known d hd, hk d hd]⟩
/-- What is known behind a move. -/
def movedK (K : Nat → Bool) (b d : Nat) : Bool := decide (1 ≤ d ∧ d + b ≤ 4096) && K (d + b)
/-- Only block q, and what is new, has changed. -/
def OnlyQ (q : Nat) (w w' : World) : Prop := w.grownBy w' (some q)

/-- Where the copy has come to: the new array below 'j'. -/
def MSt (wb wr : World) (K : Nat → Bool) (b j : Nat) : Prop :=
  Below wb.heap.size wb wr ∧ ∃ cur, Blk wr wb.heap.size 43 cur ∧ cur.size = 4097 ∧ ∀ d, d < 4097 → cur[d]? = some (.bool (if d < j then movedK K b d else false))

theorem over_get (cur : Array Value) (o : Nat) (cs : List Value) (h : o + cs.length ≤ cur.size) (i : Nat) : (over cur o cs)[i]? = if i < o then cur[i]? else if i < o + cs.length then cs[i - o]? else cur[i]? := by
  have e : (over cur o cs)[i]? = (cur.toList.take o ++ cs ++ cur.toList.drop (o + cs.length))[i]? := by unfold over; rw [List.getElem?_toArray]
  have l1 : (cur.toList.take o).length = o := by simp; omega
  rw [e]
  by_cases h1 : i < o
  · rw [if_pos h1, List.append_assoc, List.getElem?_append_left (by omega), List.getElem?_take, if_pos h1, Array.getElem?_toList]
  · rw [if_neg h1]
    by_cases h2 : i < o + cs.length
    · rw [if_pos h2, List.getElem?_append_left (by simp; omega), List.getElem?_append_right (by omega), l1]
    · rw [if_neg h2, List.getElem?_append_right (by simp; omega), List.getElem?_drop, Array.getElem?_toList]
      congr 1
      simp only [List.length_append, l1]
      omega
theorem RefCells.set_mark {cs : Array Value} {M M' : Int} {K : Nat → Bool} (h : RefCells cs M K) : RefCells (cs.setIfInBounds 0 (.int .u32 M')) M' K := by
  refine ⟨by simpa using h.size, ?_, fun d hd => ?_⟩
  · rw [Array.getElem?_setIfInBounds]; simp [h.size]
  · rw [Array.getElem?_setIfInBounds, if_neg (by omega)]; exact h.known d hd
theorem RefCells.set_all {cs cur : Array Value} {M : Int} {K K' : Nat → Bool} (h : RefCells cs M K) (hc : cur.size = 4097) (hk : ∀ d, d < 4097 → cur[d]? = some (.bool (K' d))) : RefCells (over cs 1 cur.toList) M K' := by
  have hl : 1 + cur.toList.length ≤ cs.size := by simp [h.size, hc]
  refine ⟨by rw [over_size _ _ _ hl, h.size], ?_, fun d hd => ?_⟩
  · rw [over_get _ _ _ hl]; simp [h.mark]
  · rw [over_get _ _ _ hl, if_neg (by omega), if_pos (by simp [hc]; omega), show d + 1 - 1 = d by omega, Array.getElem?_toList]
    exact hk d hd
theorem MSt.skip {wb wr : World} {K : Nat → Bool} {b j : Nat} (h : MSt wb wr K b j) (hj : movedK K b j = false) : MSt wb wr K b (j + 1) := by
  obtain ⟨h1, cur, h2, h3, h4⟩ := h
  refine ⟨h1, cur, h2, h3, fun d hd => ?_⟩
  rw [h4 d hd]
  by_cases e : d < j
  · rw [if_pos e, if_pos (by omega)]
  · rw [if_neg e]
    by_cases e2 : d < j + 1
    · rw [if_pos e2, show d = j by omega, hj]
    · rw [if_neg e2]
theorem MSt.copy {wb wr : World} {K : Nat → Bool} {b j : Nat} (h : MSt wb wr K b j) (hj : j < 4097) (hv : movedK K b j = K (j + b)) : MSt wb (wr.setCell ⟨wb.heap.size, j, none⟩ (.bool (K (j + b)))) K b (j + 1) := by
  obtain ⟨h1, cur, h2, h3, h4⟩ := h
  refine ⟨h1.setCell (Nat.le_refl _) _, _, h2.set_ j _, by simpa using h3, fun d hd => ?_⟩
  rw [Array.getElem?_setIfInBounds]
  by_cases e : j = d
  · subst e
    rw [if_pos rfl, if_pos (by omega), if_pos (by omega), hv]
  · rw [if_neg e, h4 d hd]
    by_cases e2 : d < j
    · rw [if_pos e2, if_pos (by omega)]
    · rw [if_neg e2, if_neg (by omega)]
theorem run_load_arr {w : World} {g : Nat} {cur : Array Value} (h : Blk w g 43 cur) (hs : cur.size = 4097) : True := trivial
theorem run_store_arr {w : World} {q : Nat} {T : TypeId} {cs cur : Array Value} (h : w.heap[q]? = some (.cells cs T (0, 0))) (hs : cur.size = 4097) (hf : 1 + cur.size ≤ cs.size) (h1 : ∀ v ∈ cur.toList, v.oneCell' = true) :
    (Instr.storeAt 43 (.pointer (some ⟨q, 1, none⟩)) (.agg cur)).run Try.prog w = .ok () (w.setRow q (over cs 1 cur.toList)) := by
  have hz := (zero_of_info arr_info).2
  have hst := run_storeCells_at Try.prog q 1 T cur.toList 0 cs w h (by simpa using hf) h1
  simp only [Nat.add_zero] at hst
  cases hq : Try.prog.info? 43 with
  | none => simp [hq] at hz
  | some i =>
    have hi : i.size = 4097 := by simpa [hq] using hz
    simp [Instr.storeAt, Instr.sureAddr, storeVar, sizeOf, typeInfo, hq, hi, Value.cells, hs, hst, over]

set_option maxHeartbeats 1000000 in
theorem move_any {w : World} {B q b : Nat} {M : Int} {K : Nat → Bool} (h : RefAt w B q M K) (hb : 1 ≤ b ∧ b < 4294967296) :
    Calls Try.prog 38 #[ptr q, .int .u64 (b : Int)] w fun e w' => e = .returned (.tuple #[]) ∧ RefAt w' B q (adr M b) (movedK K b) ∧ OnlyQ q w w' := by
  obtain ⟨hq, hM, cs, hbl, hcs⟩ := h
  have h0 := hbl.cell 0
  rw [hcs.mark] at h0
  have f0 := hbl.frozen 0
  have hql := hbl.lt
  have HCS := Lib.hid hcs
  have HBL := Lib.hid hbl
  clear hbl hcs
  go_enter Try.func38, Try.ntmps38
  go_wp2_with (with_reducible refine wpList_alloc_run _ rfl 43 rfl (run_alloc_arr _) ?_)
  obtain ⟨wb, hwb⟩ : ∃ wb, wb = w.setCell ⟨q, 0, none⟩ (.int .u32 ((M + (b : Int)) % 4294967296)) := ⟨_, rfl⟩
  have hsz : w.heap.size = wb.heap.size := by rw [hwb]; simp [World.setCell]
  have HB1 : Hid (∃ cs1, Blk wb q 45 cs1 ∧ RefCells cs1 (adr M b) K) := by
    refine ⟨_, ?_, HCS.out.set_mark (M' := adr M b)⟩
    rw [hwb]
    exact HBL.out.set_ 0 _
  have HG1 : Hid (w.grownBy wb (some q)) := by rw [hwb]; exact grownBy_set w q 0 _
  rw [← hwb, hsz]
  rw [hsz] at hql
  have HSZ := Lib.hid hsz
  clear hwb h0 f0 hsz
  go_loopw [5] (fun d wr => ∃ j : Nat, 1 ≤ j ∧ j ≤ 4097 ∧ d = .int .u64 (j : Int) ∧ Hid (MSt wb wr K b j)) (fun d _ => 4097 - (intOf d).toNat)
  case atStart =>
    refine ⟨1, Nat.le_refl _, by omega, rfl, (Below.refl _ _).alloc (Nat.le_refl _) _, _, heap_alloc_new wb _, by simp, fun d hd => ?_⟩
    rw [Array.getElem?_replicate, if_pos hd]
    by_cases e : d < 1
    · rw [if_pos e]; unfold movedK; have : ¬ (1 ≤ d ∧ d + b ≤ 4096) := by omega
      simp [this]
    · rw [if_neg e]
  case round =>
    obtain ⟨j, hj1, hj2, rfl, hm⟩ := hrel
    by_cases hjl : j ≤ 4096
    · by_cases hbl : b ≤ 4096
      · by_cases hjb : j + b ≤ 4096
        · obtain ⟨hbw, cur, hcur, hcs, hk⟩ := hm.out
          obtain ⟨cs1, hc1, hr1⟩ := HB1.out
          have c0 := (hc1.below hbw hql).cell (1 + (j + b))
          rw [Nat.add_comm 1 (j + b), hr1.known _ (by omega), Nat.add_comm (j + b) 1] at c0
          have c1 := hcur.cell j
          rw [hk j (by omega), if_neg (by omega)] at c1
          have c2 := hcur.frozen j
          have HN := Lib.hid (hm.out.copy (by omega) (by unfold movedK; simp [hj1, hjb]))
          clear hbw hcur hcs hk hc1 hr1
          go_wp2
          go_roundw
          case rel => exact ⟨j + 1, by omega, by omega, by go_num, HN⟩
          case measure => simp [intOf]; omega
        · have HN := Lib.hid (hm.out.skip (by unfold movedK; simp [hjb]))
          go_wp2
          go_roundw
          case rel => exact ⟨j + 1, by omega, by omega, by go_num, HN⟩
          case measure => simp [intOf]; omega
      · obtain ⟨hbw, cur, hcur, hcs, hk⟩ := hm.out
        obtain ⟨cs1, hc1, hr1⟩ := HB1.out
        have hk' : ∀ d, d < 4097 → cur[d]? = some (.bool (movedK K b d)) := fun d hd => by
          rw [hk d hd]
          by_cases e : d < j
          · rw [if_pos e]
          · rw [if_neg e]; unfold movedK; have e2 : ¬ (1 ≤ d ∧ d + b ≤ 4096) := by omega
            simp [e2]
        have hi : (Try.prog.info? 43).map (·.size) = some cur.size := by rw [hcs]; exact (zero_of_info arr_info).2
        have hc1r := hc1.below hbw hql
        have hst := run_store_arr (w := wr) (q := q) (cs := cs1) hc1r hcs (by rw [hr1.size, hcs]; omega) (by
          intro v hv
          obtain ⟨i, hi, rfl⟩ := List.getElem_of_mem hv
          have hi2 : i < 4097 := by rw [← hcs]; simpa using hi
          have := hk' i hi2
          rw [← Array.getElem?_toList, List.getElem?_eq_getElem hi] at this
          injection this with this
          rw [this]; rfl)
        have H : Hid (RefAt (wr.setRow q (over cs1 1 cur.toList)) B q (adr M b) (movedK K b) ∧ OnlyQ q w (wr.setRow q (over cs1 1 cur.toList))) := by
          refine ⟨⟨hq, adr_bd _ _, _, setRow_heap wr q cs1 _ _ _ hc1r, hr1.set_all hcs hk'⟩, ?_⟩
          refine ⟨hbw.os.trans HG1.out.os, hbw.tape.trans HG1.out.tape, hbw.output.trans HG1.out.output, ?_, fun i hi hne => ?_⟩
          · rw [HSZ.out]; simpa [World.setRow] using hbw.size
          · have hiq : i ≠ q := fun e => hne (by rw [e])
            rw [setRow_other wr q i _ hiq]
            exact (hbw.block i (by rw [← HSZ.out]; exact hi)).trans (HG1.out.block i hi hne)
        have HST := Lib.hid hst
        have HCUR : Hid (wr.heap[wb.heap.size]? = some (.cells cur 43 (0, 0))) := hcur
        have HI := Lib.hid hi
        clear hbw hcur hcs hk hk' hc1 hr1 hi hc1r hst
        go_wp2_with (first
          | ((with_reducible refine wpList_load_row rfl 43 (.tmp 4) rfl wb.heap.size ?_ 43 cur (0, 0) _ HCUR.out Try.underlying43 ?_ HI.out ?_); (focus rfl); (focus rfl))
          | ((with_reducible refine wpList_store_run _ rfl 43 (.tmp 40) (.tmp 38) rfl ?_ ?_ HST.out ?_); (focus rfl); (focus rfl)))
        go_end0
        exact ⟨rfl, H.out⟩
    · obtain ⟨hbw, cur, hcur, hcs, hk⟩ := hm.out
      obtain ⟨cs1, hc1, hr1⟩ := HB1.out
      have hk' : ∀ d, d < 4097 → cur[d]? = some (.bool (movedK K b d)) := fun d hd => by
        rw [hk d hd]
        by_cases e : d < j
        · rw [if_pos e]
        · rw [if_neg e]; unfold movedK; have e2 : ¬ (1 ≤ d ∧ d + b ≤ 4096) := by omega
          simp [e2]
      have hi : (Try.prog.info? 43).map (·.size) = some cur.size := by rw [hcs]; exact (zero_of_info arr_info).2
      have hc1r := hc1.below hbw hql
      have hst := run_store_arr (w := wr) (q := q) (cs := cs1) hc1r hcs (by rw [hr1.size, hcs]; omega) (by
        intro v hv
        obtain ⟨i, hi, rfl⟩ := List.getElem_of_mem hv
        have hi2 : i < 4097 := by rw [← hcs]; simpa using hi
        have := hk' i hi2
        rw [← Array.getElem?_toList, List.getElem?_eq_getElem hi] at this
        injection this with this
        rw [this]; rfl)
      have H : Hid (RefAt (wr.setRow q (over cs1 1 cur.toList)) B q (adr M b) (movedK K b) ∧ OnlyQ q w (wr.setRow q (over cs1 1 cur.toList))) := by
        refine ⟨⟨hq, adr_bd _ _, _, setRow_heap wr q cs1 _ _ _ hc1r, hr1.set_all hcs hk'⟩, ?_⟩
        refine ⟨hbw.os.trans HG1.out.os, hbw.tape.trans HG1.out.tape, hbw.output.trans HG1.out.output, ?_, fun i hi hne => ?_⟩
        · rw [HSZ.out]; simpa [World.setRow] using hbw.size
        · have hiq : i ≠ q := fun e => hne (by rw [e])
          rw [setRow_other wr q i _ hiq]
          exact (hbw.block i (by rw [← HSZ.out]; exact hi)).trans (HG1.out.block i hi hne)
      have HST := Lib.hid hst
      have HCUR : Hid (wr.heap[wb.heap.size]? = some (.cells cur 43 (0, 0))) := hcur
      have HI := Lib.hid hi
      clear hbw hcur hcs hk hk' hc1 hr1 hi hc1r hst
      go_wp2_with (first
        | ((with_reducible refine wpList_load_row rfl 43 (.tmp 4) rfl wb.heap.size ?_ 43 cur (0, 0) _ HCUR.out Try.underlying43 ?_ HI.out ?_); (focus rfl); (focus rfl))
        | ((with_reducible refine wpList_store_run _ rfl 43 (.tmp 40) (.tmp 38) rfl ?_ ?_ HST.out ?_); (focus rfl); (focus rfl)))
      go_end0
      exact ⟨rfl, H.out⟩
end Go.Proofs.Ytgbkmnmkejcogaa.Span
