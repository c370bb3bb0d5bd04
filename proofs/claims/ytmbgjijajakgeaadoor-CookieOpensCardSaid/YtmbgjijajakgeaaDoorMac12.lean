/-
  For the laws of package mac: arrays compared, noughts appended.
-/
import Derived.Test.YtmbgjijajakgeaaDoorMac11
import Derived.ChangeKeysEq
import Derived.Laws.StructEq
set_option linter.unusedVariables false
set_option linter.unusedSimpArgs false
namespace Go.Proofs.YtmbgjijajakgeaaDoor.Sha
open Go.ChangeShapes Go.WideShapes Go.ChangeAt Go.RowKit Go.Proofs.YtmbgjijajakgeaaDoor.Words

theorem u8_plain : (Tryd.prog.info? 5).isSome = true ∧ Tryd.prog.cellsOf 5 = 1 := by constructor <;> kernel_rfl
theorem items_eq (w : World) (d : Nat) (a b : List UInt8) : ∀ (n k : Nat), k + n = a.length → a.length = b.length →
    (Op.eqItems (d + 1) 5 1 (V a) (V b) (List.range' k n)).run Tryd.prog w = .ok (decide (a.drop k = b.drop k)) w
  | 0, k, h, hl => by
    rw [List.drop_eq_nil_of_le (by omega), List.drop_eq_nil_of_le (by omega)]
    simp [Op.eqItems]
  | n + 1, k, h, hl => by
    have ha : k < a.length := by omega
    have hb : k < b.length := by omega
    have p1 : (part 5 (V a) (k * 1)).run Tryd.prog w = .ok (.int .u8 ((a[k]).toNat : Int)) w :=
      run_part_plain w (by kernel_rfl) (by rw [Nat.mul_one, V_get, List.getElem?_eq_getElem ha]; rfl)
    have p2 : (part 5 (V b) (k * 1)).run Tryd.prog w = .ok (.int .u8 ((b[k]).toNat : Int)) w :=
      run_part_plain w (by kernel_rfl) (by rw [Nat.mul_one, V_get, List.getElem?_eq_getElem hb]; rfl)
    have p3 := run_equalIn_int (P := Tryd.prog) w d 5 .u8 .u8 ((a[k]).toNat : Int) ((b[k]).toNat : Int) Tryd.underlying5
    have ih := items_eq w d a b n (k + 1) (by omega) hl
    rw [List.range'_succ]
    simp only [Op.eqItems, Sem.run_bind, p1, p2, p3, Result.andThen_ok]
    have hd : (a.drop k = b.drop k) ↔ (a[k] = b[k] ∧ a.drop (k + 1) = b.drop (k + 1)) := by
      rw [List.drop_eq_getElem_cons ha, List.drop_eq_getElem_cons hb, List.cons.injEq]
    by_cases he : a[k] = b[k]
    · have hb' : ((a[k].toNat : Int) == (b[k].toNat : Int)) = true := by rw [he]; exact beq_self_eq_true _
      rw [hb']
      simp only [Bool.not_true, Bool.false_eq_true, if_false, ih]
      congr 1
      simp only [hd, he, true_and]
    · have hne : ((a[k].toNat : Int) == (b[k].toNat : Int)) = false := by
        simp only [beq_eq_false_iff_ne, ne_eq]
        intro e
        exact he (UInt8.toNat_inj.1 (by omega))
      have hnd : ¬ (a.drop k = b.drop k) := fun e => he (hd.1 e).1
      simp only [hne, Bool.not_false, if_true, Sem.run_pure, hnd, decide_false]
theorem eq32 (a b : List UInt8) (ha : a.length = 32) (hb : b.length = 32) (w : World) : (binOp .eql 41 (.agg (V a)) (.agg (V b))).run Tryd.prog w = .ok (.bool (decide (a = b))) w := by
  obtain ⟨h1, h2⟩ := u8_plain
  obtain ⟨i, hi⟩ := Option.isSome_iff_exists.1 h1
  rw [run_eql_struct]
  rw [run_equalIn_array (P := Tryd.prog) w 9999 (V a) (V b) Tryd.underlying41 hi, h2, List.range_eq_range', items_eq w 9998 a b 32 0 (by omega) (by omega)]
  rfl
theorem eqg32 (x y : Operand) (a b : List UInt8) (w : World) : (eqGuard .eql 41 x y (.agg (V a)) (.agg (V b))).run Tryd.prog w = .ok () w :=
  run_eqGuard_agg (P := Tryd.prog) w .eql 41 x y _ _ (by kernel_rfl)
theorem exec_eq32 {ρ : Operand → Value} {o : Oper} {x y : Operand} {r : TypeId} {w : World} (a b : List UInt8) (ha : a.length = 32) (hb : b.length = 32) (ho : o.op = .binOp .eql 41 x y r) (hx : ρ x = .agg (V a)) (hy : ρ y = .agg (V b)) :
    (execOp ρ o).run Tryd.prog w = .ok (.value (.bool (decide (a = b)))) w := by
  unfold execOp
  simp only [ho, hx, hy, Sem.run_bind, Sem.run_pure, Result.andThen_ok, eqg32, eq32 a b ha hb]
theorem wpList_eq32 {ops : Array Oper} {rest : List Oper} {o : Oper} {A : Act} {w : World} {Q : Exit → Act → World → Prop} (hgd : Region.wanted o (yielded ops A.tmps) = true) (x y : Operand) (r : TypeId) (ho : o.op = .binOp .eql 41 x y r)
    (a b : List UInt8) (ha : a.length = 32) (hb : b.length = 32) (hx : A.eval x = .agg (V a)) (hy : A.eval y = .agg (V b))
    (h : wpList Tryd.prog ops Q rest (A.put o.dst (.bool (decide (a = b)))) w) : wpList Tryd.prog ops Q (o :: rest) A w :=
  BigFrame.wpList_want hgd fun _ hK => by
    unfold Oper.wp
    rw [exec_eq32 a b ha hb ho hx hy]
    exact hK _ _ h
theorem zeros_u8s (n : Nat) : (Builtin.zeroCells #[Value.int .u8 0] n) = (u8s (List.replicate n 0)).toArray := by
  apply Array.ext'
  simp only [Builtin.zeroCells, u8s, List.map_replicate]
  refine List.eq_replicate_iff.2 ⟨by simp, fun b hb => ?_⟩
  simp only [List.size_toArray, List.length_cons, List.length_nil, Nat.zero_add, Nat.mul_one, Nat.mod_one, Array.toList_map, Array.toList_range, List.mem_map] at hb
  obtain ⟨_, _, rfl⟩ := hb
  rfl
/-- Noughts, appended to a row of the call's own. -/
theorem noughts_own (w : World) (base n m : Nat) (v : Value) (l : List UInt8) (hown : w.ownsRow base 5 1 v n (u8s l)) (hn : n ≤ 100000) (hm : m ≤ 100000) (hbase : base ≤ w.heap.size) (ty : TypeId) :
    ∃ v' w', (Builtin.append_ #[22, 3] ty #[v, .int .i64 (m : Int)]).run Tryd.prog w = .ok v' w' ∧ w'.ownsRow base 5 1 v' (n + m) (u8s (l ++ List.replicate m 0)) ∧ w.grownBy w' v.ownBlock := by
  obtain ⟨i, hi, hz, hs, hb⟩ := info_parts3 u8_info
  have hl : l.length = n := by have := hown.1; rwa [u8s_length, Nat.mul_one] at this
  have hw : IntKind.i64.wrap (m : Int) = m := by rw [IntKind.wrap_i64]; omega
  have hneg : ¬ ((m : Int) < 0) := by omega
  have h48i : ¬ (281474976710656 < (m : Int)) := by omega
  have ht := Tryd.underlying22
  have htn := Tryd.underlying3
  have hneed : ¬ (9223372036854775807 < ((n : Int) + (m : Int))) := by omega
  have grown : ∀ (old : Nat), old < n + m → ∀ (row : Option Nat),
      (w.drew.alloc (.cells ((u8s l).toArray ++ (u8s (List.replicate m 0)).toArray ++ Builtin.zeroCells #[Value.int .u8 0] (grownCap w (n + m) old 5 - (n + m))) 5)).ownsRow base 5 1
        (.slice (some ⟨w.heap.size, 0, none⟩) (n + m) (grownCap w (n + m) old 5)) (n + m) (u8s (l ++ List.replicate m 0)) ∧
      w.grownBy (w.drew.alloc (.cells ((u8s l).toArray ++ (u8s (List.replicate m 0)).toArray ++ Builtin.zeroCells #[Value.int .u8 0] (grownCap w (n + m) old 5 - (n + m))) 5)) row := by
    intro old ho row
    have hge := grownCap_ge w (n + m) old 5
    have hcm : grownCap w (n + m) old 5 ≤ maxLen := grownCap_le_maxLen w (n + m) old _ (by simp only [maxLen]; omega)
    refine ⟨⟨by simp [u8s_length, hl], .inr ⟨w.heap.size, _, _, rfl, hbase, heap_alloc_new w.drew _, hge, hcm, ?_, ?_⟩⟩, ⟨rfl, rfl, rfl, by simp, fun k hk _ => heap_alloc_old w.drew _ hk⟩⟩
    · simp only [Array.size_append, List.size_toArray, size_zeroCells, u8s_length, hl, List.length_replicate]
      simp
      omega
    · have e : (u8s (l ++ List.replicate m 0)).length = n + m := by simp [u8s_length, hl]
      rw [u8s_append] at e ⊢
      simp only [Array.toList_append]
      rw [Nat.mul_one, ← e]
      exact List.take_left
  have hzc : (Value.int .u8 0).cells = #[Value.int .u8 0] := rfl
  by_cases h0 : m = 0
  · subst h0
    have hw0 : IntKind.i64.wrap (0 : Int) = 0 := by rw [IntKind.wrap_i64]; rfl
    refine ⟨v, w, ?_, by simpa using hown, World.grownBy.refl w _⟩
    rcases hown.2 with ⟨rfl, hx⟩ | ⟨g, cap, cur, rfl, hbg, hg, hnc, hcm, hcs, htake⟩
    · simp [Builtin.append_, run_underlying ht, run_underlying htn, sizeOf, typeInfo, hi, hs, asInt, asIntOf, hw0, hs, run_firstCells_none]
    · simp [Builtin.append_, run_underlying ht, run_underlying htn, sizeOf, typeInfo, hi, hs, asInt, asIntOf, hw0, hs, hnc, storeCells]
  rcases hown.2 with ⟨rfl, hx⟩ | ⟨g, cap, cur, rfl, hbg, hg, hnc, hcm, hcs, htake⟩
  · subst hx
    obtain rfl : l = [] := List.eq_nil_of_length_eq_zero hl
    have hr := Lib.run_append_nil_zeros (P := Tryd.prog) w 22 3 ty 5 i _ .i64 .i64 ht htn hi hz m (by omega) (by omega) (by omega) (by rw [hb]; omega)
    have hgr := grown 0 (by omega) (Value.ownBlock (.slice none 0 0))
    simp only [Nat.zero_add] at hgr ⊢
    refine ⟨_, _, hr, ?_, ?_⟩
    · have := hgr.1
      rw [← zeros_u8s] at this
      simpa [u8s, Value.cells] using this
    · have := hgr.2
      rw [← zeros_u8s] at this
      simpa [u8s, Value.cells] using this
  · by_cases hroom : n + m ≤ cap
    · have hst := run_storeCells_at Tryd.prog g n 5 (u8s (List.replicate m 0)) 0 cur w hg (by rw [u8s_length, List.length_replicate]; omega) (u8s_one _)
      simp only [Nat.add_zero, u8s_length, List.length_replicate] at hst
      have hcn : cur.toList.take n = u8s l := by rw [Nat.mul_one] at htake; exact htake
      rw [hcn] at hst
      refine ⟨.slice (some ⟨g, 0, none⟩) (n + m) cap, _, ?_, ⟨by simp [u8s_length, hl], .inr ⟨g, cap, _, rfl, hbg, setRow_heap w g cur ((u8s l) ++ u8s (List.replicate m 0) ++ cur.toList.drop (n + m)).toArray _ _ hg, hroom, hcm, ?_, ?_⟩⟩, ⟨rfl, rfl, rfl, by simp, fun k _ hk => setRow_other w g k _ (fun e => hk (by simp [Value.ownBlock, e]))⟩⟩
      · simp [Builtin.append_, run_underlying ht, run_underlying htn, sizeOf, typeInfo, hi, hs, asInt, asIntOf, hw, hneg, h48i, hb, hroom, Addr.add_lit, h0, zeroValue, hz, hzc, zeros_u8s, hst]
      · simp [u8s_length, hl]
        omega
      · rw [u8s_append]
        rw [show (n + m) * 1 = (u8s l ++ u8s (List.replicate m 0)).length by simp [u8s_length, hl]]
        exact List.take_left
    · have holds : ∀ j u, (u8s l)[j]? = some u → w.cell? ((⟨g, 0, none⟩ : Addr).add j) = some u := hown.cells (g := g) rfl
      have hfo := run_firstCells_some (P := Tryd.prog) w.drew 1 n ⟨g, 0, none⟩ n cap (u8s l) (by rw [u8s_length, hl, Nat.mul_one]) (by simpa using holds)
      have hgr := grown cap (by omega) (Value.ownBlock (.slice (some ⟨g, 0, none⟩) n cap))
      have hfit := growslice_fits (show cap < n + m by omega) (show (n + m) * 1 ≤ 140737488355328 by omega)
      rw [Nat.mul_one] at hfit
      have hfit' : ¬ (281474976710656 < Builtin.nextslicecap (n + m) cap) := by omega
      refine ⟨_, _, ?_, hgr.1, hgr.2⟩
      simp [Builtin.append_, run_underlying ht, run_underlying htn, sizeOf, typeInfo, zeroValue, hi, hs, hz, hb, asInt, asIntOf, hw, hneg, h48i, hroom, hneed, hfo, Question.forced, newRow, grownCap, hfit', h0, hzc, zeros_u8s]
end Go.Proofs.YtmbgjijajakgeaaDoor.Sha
