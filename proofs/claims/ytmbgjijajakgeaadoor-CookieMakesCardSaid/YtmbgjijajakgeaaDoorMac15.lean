/-
  Rows of bytes that grow in a region that draws its order, beside what else the region makes: the text L, of which rows hold beginnings.
-/
import Derived.Test.YtmbgjijajakgeaaDoorMac14
set_option linter.unusedVariables false
set_option linter.unusedSimpArgs false
namespace Go.Proofs.YtmbgjijajakgeaaDoor.Sha
open Go.ChangeShapes Go.WideShapes Go.ChangeAt Go.RowKit Go.Proofs.YtmbgjijajakgeaaDoor.Words

/-- From one world to a later one: rows of bytes from block B0 on keep the beginnings of L that they hold, all else is kept. -/
structure Grew (B0 : Nat) (L : List UInt8) (w w' : World) : Prop where
  size : w.heap.size ≤ w'.heap.size
  below : Below B0 w w'
  rows : ∀ g, g < w.heap.size → w'.heap[g]? = w.heap[g]? ∨ ∃ cur cur', w.heap[g]? = some (.cells cur 5 (0, 0)) ∧ w'.heap[g]? = some (.cells cur' 5 (0, 0)) ∧ cur'.size = cur.size ∧ ∀ n, n ≤ L.length → cur.toList.take n = (u8s L).take n → cur'.toList.take n = (u8s L).take n
/-- A row that holds the first n bytes of L. -/
def RowL (B0 : Nat) (L : List UInt8) (n : Nat) (v : Value) (w : World) : Prop := ∃ g cap cur, v = .slice (some ⟨g, 0, none⟩) n cap ∧ B0 ≤ g ∧ w.heap[g]? = some (.cells cur 5 (0, 0)) ∧ cur.size = cap ∧ n ≤ cap ∧ cap ≤ maxLen ∧ n ≤ L.length ∧ cur.toList.take n = (u8s L).take n
section
variable {B0 n : Nat} {L : List UInt8} {v : Value} {w w' : World}
theorem Grew.refl (w : World) : Grew B0 L w w := ⟨Nat.le_refl _, Below.refl _ _, fun g _ => .inl rfl⟩
theorem Grew.of_below (h : Below w.heap.size w w') (hB : B0 ≤ w.heap.size) : Grew B0 L w w' := ⟨h.size, h.mono hB, fun g hg => .inl (h.block g hg)⟩
theorem lt_of_heap {g : Nat} {o : Obj} (h : w.heap[g]? = some o) : g < w.heap.size := (Array.getElem?_eq_some_iff.1 h).1
theorem RowL.grew (h : RowL B0 L n v w) (k : Grew B0 L w w') : RowL B0 L n v w' := by
  obtain ⟨g, cap, cur, h1, h2, h3, h4, h5, h6, h7, h8⟩ := h
  rcases k.rows g (lt_of_heap h3) with e | ⟨cur0, cur', e1, e2, e3, e4⟩
  · exact ⟨g, cap, cur, h1, h2, e.trans h3, h4, h5, h6, h7, h8⟩
  · rw [h3] at e1
    cases e1
    exact ⟨g, cap, cur', h1, h2, e2, by rw [e3, h4], h5, h6, h7, e4 n h7 h8⟩
theorem Built.grew {xs : List Value} (h : Built xs v w) (k : Grew B0 L w w') : Built xs v w' := by
  obtain ⟨g, rfl, h⟩ := h
  rcases k.rows g (lt_of_heap h) with e | ⟨cur0, cur', e1, _⟩
  · exact ⟨g, rfl, e.trans h⟩
  · exfalso
    have h' : w.heap[g]? = some (.cells xs.toArray 22 (0, 0)) := h
    rw [h'] at e1
    cases e1
theorem RowL.new (w : World) (hB : B0 ≤ w.heap.size) : RowL B0 L 0 (.slice (some ⟨w.heap.size, 0, none⟩) 0 0) (w.alloc (.cells #[] 5)) :=
  ⟨w.heap.size, 0, #[], rfl, hB, heap_alloc_new w _, rfl, Nat.le_refl _, Nat.zero_le _, Nat.zero_le _, rfl⟩
theorem RowL.ptv (h : RowL B0 L n v w) (hn : n = L.length) : PtV w w.heap.size v L := by
  obtain ⟨g, cap, cur, rfl, h2, h3, h4, h5, h6, h7, h8⟩ := h
  refine .mk hn h5 (by unfold maxLen at h6; omega) ?_
  refine byt_of_heap (t := 5) (fr := (0, 0)) h3 (lt_of_heap h3) ?_
  rw [← hn, h8, hn]
  rw [← u8s_length L, List.take_length]
theorem take_mix {α : Type} (X C : List α) (p n : Nat) (hp : p ≤ X.length) (h : C.take n = X.take n) : (X.take p ++ C.drop p).take n = X.take n := by
  apply List.ext_getElem?
  intro i
  have hi := congrArg (fun l => l[i]?) h
  simp only [List.getElem?_take] at hi ⊢
  by_cases hin : i < n
  · rw [if_pos hin] at hi ⊢
    rw [if_pos hin] at hi ⊢
    by_cases hip : i < p
    · rw [List.getElem?_append_left (by rw [List.length_take]; omega), List.getElem?_take, if_pos hip]
    · rw [List.getElem?_append_right (by rw [List.length_take]; omega), List.length_take, List.getElem?_drop, ← hi]
      congr 1
      omega
  · rw [if_neg hin, if_neg hin]
theorem room {g cap p : Nat} {cur : Array Value} (hB : B0 ≤ g) (hg : w.heap[g]? = some (.cells cur 5 (0, 0))) (hc : cur.size = cap) (hp : p ≤ cap) (hm : cap ≤ maxLen) (hl : p ≤ L.length) :
    RowL B0 L p (.slice (some ⟨g, 0, none⟩) p cap) (w.setRow g ((u8s L).take p ++ cur.toList.drop p).toArray) ∧ Grew B0 L w (w.setRow g ((u8s L).take p ++ cur.toList.drop p).toArray) := by
  have hu := u8s_length L
  have h1 : (((u8s L).take p ++ cur.toList.drop p).toArray).size = cur.size := by simp [hu]; omega
  refine ⟨⟨g, cap, _, rfl, hB, setRow_heap w g cur _ _ _ hg, by rw [h1, hc], hp, hm, hl, ?_⟩, ⟨by simp [World.setRow], below_setRow (Below.refl _ _) hB _, fun k hk => ?_⟩⟩
  · show ((u8s L).take p ++ cur.toList.drop p).take p = _
    have : ((u8s L).take p).length = p := by rw [List.length_take, hu]; omega
    exact List.take_left' this
  · by_cases e : k = g
    · subst e
      exact .inr ⟨cur, _, hg, setRow_heap w k cur _ _ _ hg, h1, fun n hn h => take_mix (u8s L) cur.toList p n (by omega) h⟩
    · exact .inl (setRow_other w g k _ e)
theorem grow (old : Nat) {p : Nat} (hB : B0 ≤ w.heap.size) (hp : p ≤ L.length) (hL : L.length ≤ 100000) :
    RowL B0 L p (.slice (some ⟨w.heap.size, 0, none⟩) p (grownCap w p old 5)) (w.drew.alloc (.cells (((u8s L).take p).toArray ++ Builtin.zeroCells #[Value.int .u8 0] (grownCap w p old 5 - p)) 5)) ∧
    Grew B0 L w (w.drew.alloc (.cells (((u8s L).take p).toArray ++ Builtin.zeroCells #[Value.int .u8 0] (grownCap w p old 5 - p)) 5)) := by
  have hge := grownCap_ge w p old 5
  have hcm : grownCap w p old 5 ≤ maxLen := grownCap_le_maxLen w p old _ (by simp only [maxLen]; omega)
  have hu := u8s_length L
  refine ⟨⟨w.heap.size, _, _, rfl, hB, heap_alloc_new w.drew _, ?_, hge, hcm, hp, ?_⟩, .of_below ((Below.drew (Below.refl _ _)).alloc (Nat.le_refl _) _) hB⟩
  · simp only [Array.size_append, List.size_toArray, List.length_take, size_zeroCells, hu]
    simp
    omega
  · have : ((u8s L).take p).length = p := by rw [List.length_take, hu]; omega
    rw [Array.toList_append]
    exact List.take_left' this
theorem mid_eq {n m : Nat} : (u8s L).take n ++ u8s ((L.drop n).take m) = (u8s L).take (n + m) := by
  rw [u8s_take, u8s_drop, List.take_add]
/-- append of bytes that are L's next. -/
theorem app_row {m B c : Nat} {a : Option Addr} (h : RowL B0 L n v w) (hB : B0 ≤ w.heap.size) (hL : L.length ≤ 100000) (hm : n + m ≤ L.length) (hr : Reads w B 1 a m (u8s ((L.drop n).take m))) (ty : TypeId) :
    ∃ v' w', (Builtin.append_ #[22, 22] ty #[v, .slice a m c]).run Tryd.prog w = .ok v' w' ∧ RowL B0 L (n + m) v' w' ∧ Grew B0 L w w' := by
  obtain ⟨i, hi, hz, hs, hb⟩ := info_parts3 u8_info
  have hlm : (u8s ((L.drop n).take m)).length = m := by have := hr.1; rwa [Nat.mul_one] at this
  obtain ⟨g, cap, cur, rfl, h2, h3, h4, h5, h6, h7, h8⟩ := h
  have ht := Tryd.underlying22
  rcases Nat.eq_zero_or_pos m with h0 | h0
  · subst h0
    refine ⟨.slice (some ⟨g, 0, none⟩) n cap, w, ?_, ⟨g, cap, cur, rfl, h2, h3, h4, h5, h6, h7, h8⟩, .refl w⟩
    rcases a with _ | a
    · simp [Builtin.append_, run_underlying ht, sizeOf, typeInfo, hi, Builtin.lenOf, Builtin.firstCells, h5, storeCells]
    · simp [Builtin.append_, run_underlying ht, sizeOf, typeInfo, hi, Builtin.lenOf, Builtin.firstCells, h5, storeCells, loadCells, loadCellsFrom]
  · obtain ⟨ad, rfl, _, hc⟩ := hr.2 h0
    by_cases hroom : n + m ≤ cap
    · have hrun := run_append_room (P := Tryd.prog) w 22 ty 5 i ht hi g n cap cur h3 ad m c _ (by rw [hlm, hs, Nat.mul_one]) hc (u8s_one _) hroom (by rw [hlm, hs, Nat.mul_one, h4]; exact hroom)
      rw [hs, Nat.mul_one, hlm, h8, mid_eq] at hrun
      obtain ⟨k1, k2⟩ := room (L := L) (p := n + m) h2 h3 h4 hroom h6 hm
      exact ⟨_, _, hrun, k1, k2⟩
    · have holds : ∀ j u, ((u8s L).take n)[j]? = some u → w.cell? ((⟨g, 0, none⟩ : Addr).add j) = some u := by
        intro j u hu
        rw [← h8, List.getElem?_take] at hu
        split at hu
        · rw [Blk.cellAdd (t := 5) (cs := cur) h3 j]
          simpa using hu
        · cases hu
      have hrun := run_append_grow (P := Tryd.prog) w 22 ty 5 i _ ht hi hz ⟨g, 0, none⟩ n cap ((u8s L).take n) (by rw [List.length_take, u8s_length, hs]; omega) holds ad m c _ (by rw [hlm, hs, Nat.mul_one]) hc (by omega) (by omega) (growslice_fits (by omega) (by rw [hb]; omega))
      have e : ((u8s L).take n).toArray ++ (u8s ((L.drop n).take m)).toArray = ((u8s L).take (n + m)).toArray := by
        rw [← mid_eq]
        simp
      rw [e] at hrun
      obtain ⟨k1, k2⟩ := grow (w := w) (L := L) cap (p := n + m) hB hm hL
      exact ⟨_, _, hrun, k1, k2⟩
/-- append of noughts that are L's next. -/
theorem app_noughts {m : Nat} (h : RowL B0 L n v w) (hB : B0 ≤ w.heap.size) (hL : L.length ≤ 100000) (hm : n + m ≤ L.length) (hz0 : (L.drop n).take m = List.replicate m 0) (ty : TypeId) :
    ∃ v' w', (Builtin.append_ #[22, 3] ty #[v, .int .i64 (m : Int)]).run Tryd.prog w = .ok v' w' ∧ RowL B0 L (n + m) v' w' ∧ Grew B0 L w w' := by
  obtain ⟨i, hi, hz, hs, hb⟩ := info_parts3 u8_info
  obtain ⟨g, cap, cur, rfl, h2, h3, h4, h5, h6, h7, h8⟩ := h
  have ht := Tryd.underlying22
  have htn := Tryd.underlying3
  have hw : IntKind.i64.wrap (m : Int) = m := by rw [IntKind.wrap_i64]; omega
  have hneg : ¬ ((m : Int) < 0) := by omega
  have h48i : ¬ (281474976710656 < (m : Int)) := by omega
  have hneed : ¬ (9223372036854775807 < ((n : Int) + (m : Int))) := by omega
  have hzc : (Value.int .u8 0).cells = #[Value.int .u8 0] := rfl
  have hme := mid_eq (L := L) (n := n) (m := m)
  rw [hz0] at hme
  rcases Nat.eq_zero_or_pos m with h0 | h0
  · subst h0
    have hw0 : IntKind.i64.wrap (0 : Int) = 0 := by rw [IntKind.wrap_i64]; rfl
    refine ⟨.slice (some ⟨g, 0, none⟩) n cap, w, ?_, ⟨g, cap, cur, rfl, h2, h3, h4, h5, h6, h7, h8⟩, .refl w⟩
    simp [Builtin.append_, run_underlying ht, run_underlying htn, sizeOf, typeInfo, hi, hs, asInt, asIntOf, hw0, hs, h5, storeCells]
  have h0' : m ≠ 0 := by omega
  by_cases hroom : n + m ≤ cap
  · have hst := run_storeCells_at Tryd.prog g n 5 (u8s (List.replicate m 0)) 0 cur w h3 (by rw [u8s_length, List.length_replicate]; omega) (u8s_one _)
    simp only [Nat.add_zero, u8s_length, List.length_replicate] at hst
    rw [h8, hme] at hst
    obtain ⟨k1, k2⟩ := room (L := L) (p := n + m) h2 h3 h4 hroom h6 hm
    refine ⟨_, _, ?_, k1, k2⟩
    simp [Builtin.append_, run_underlying ht, run_underlying htn, sizeOf, typeInfo, hi, hs, asInt, asIntOf, hw, hneg, h48i, hb, hroom, Addr.add_lit, h0', zeroValue, hz, hzc, zeros_u8s, hst]
  · have holds : ∀ j u, ((u8s L).take n)[j]? = some u → w.cell? ((⟨g, 0, none⟩ : Addr).add j) = some u := by
      intro j u hu
      rw [← h8, List.getElem?_take] at hu
      split at hu
      · rw [Blk.cellAdd (t := 5) (cs := cur) h3 j]
        simpa using hu
      · cases hu
    have hfo := run_firstCells_some (P := Tryd.prog) w.drew 1 n ⟨g, 0, none⟩ n cap ((u8s L).take n) (by rw [List.length_take, u8s_length]; omega) (by simpa using holds)
    have hfit := growslice_fits (show cap < n + m by omega) (show (n + m) * 1 ≤ 140737488355328 by omega)
    rw [Nat.mul_one] at hfit
    have hfit' : ¬ (281474976710656 < Builtin.nextslicecap (n + m) cap) := by omega
    obtain ⟨k1, k2⟩ := grow (w := w) (L := L) cap (p := n + m) hB hm hL
    refine ⟨_, _, ?_, k1, k2⟩
    have e : ((u8s L).take n).toArray ++ (u8s (List.replicate m 0)).toArray = ((u8s L).take (n + m)).toArray := by rw [← hme]; simp
    rw [← e]
    simp [Builtin.append_, run_underlying ht, run_underlying htn, sizeOf, typeInfo, zeroValue, hi, hs, hz, hb, asInt, asIntOf, hw, hneg, h48i, hroom, hneed, hfo, Question.forced, newRow, grownCap, hfit', h0', hzc, zeros_u8s]
end
theorem seal_long {k x : List UInt8} (h : 64 < k.length) : seal_ (hash k) x = seal_ k x := by
  have : key64 (hash k) = key64 k := by
    rw [key64_eq, key64_eq]
    have e1 : keyS (hash k) = hash k := by unfold keyS; rw [if_neg (by rw [hash_length]; omega)]
    have e2 : keyS k = hash k := by unfold keyS; rw [if_pos h]
    rw [e1, e2]
  unfold seal_
  rw [this]
theorem seal_zeros {k x : List UInt8} {n : Nat} (h : k.length + n ≤ 64) : seal_ (k ++ List.replicate n 0) x = seal_ k x := by
  have : key64 (k ++ List.replicate n 0) = key64 k := by
    rw [key64_eq, key64_eq]
    have e1 : keyS (k ++ List.replicate n 0) = k ++ List.replicate n 0 := by unfold keyS; rw [if_neg (by simp; omega)]
    have e2 : keyS k = k := by unfold keyS; rw [if_neg (by omega)]
    rw [e1, e2, List.append_assoc, List.replicate_append_replicate]
    congr 2
    simp
    omega
  unfold seal_
  rw [this]
end Go.Proofs.YtmbgjijajakgeaaDoor.Sha
