/-
  slices.Delete and slices.Insert at rows of two cells.
-/
import Derived.Test.YtgbkmnmkejcogaaSpanFind
import Derived.Deep.RegionLaw
import Derived.Lib.Overlaps
import Derived.Laws.IdiomCopy
set_option linter.unusedVariables false
set_option linter.unusedSimpArgs false
namespace Go.Proofs.Ytgbkmnmkejcogaa.Span
open Go.ChangeShapes Go.WideShapes Go.ChangeAt Go.RowKit Go.Proofs.Ytgbkmnmkejcogaa.Ser

/-- append, its run known by an equation, as one step of a region that draws. -/
theorem step_append_run {P : Program} {ops : Array Oper} {o : Oper} {a : Act} {w : World} {K : Act → World → Prop} {Q : Exit → Act → World → Prop} {E : Prop}
    (hg : o.guard = none) (d x : Operand) (dT sT : TypeId) (hop : o.op = Op.call { callee := Callee.builtin Builtin.append, args := #[d, x], argTypes := #[dT, sT] })
    (v u : Value) (hd : a.eval d = v) (hx : a.eval x = u) {v' : Value} {w' : World} (hr : (Builtin.append_ #[dT, sT] o.type #[v, u]).run P w = .ok v' w') (hK : K (a.put o.dst v') w') :
    if Region.wanted o (yielded ops a.tmps) = true then Oper.wp P o a w K Q else E := by
  have hw : Region.wanted o (yielded ops a.tmps) = true := by simp [Region.wanted, hg]
  rw [if_pos hw]
  unfold Oper.wp
  simp [execOp, hop, resolve, invoke, builtin, hd, hx, hr, Result.andThen]
  exact hK

/-- Some cells laid over others from a place on. -/
def over (cur : Array Value) (o : Nat) (cs : List Value) : Array Value := (cur.toList.take o ++ cs ++ cur.toList.drop (o + cs.length)).toArray
theorem over_size (cur : Array Value) (o : Nat) (cs : List Value) (h : o + cs.length ≤ cur.size) : (over cur o cs).size = cur.size := by
  unfold over; simp; omega
theorem over_take (cur : Array Value) (o : Nat) (cs : List Value) (h : o + cs.length ≤ cur.size) : (over cur o cs).toList.take (o + cs.length) = cur.toList.take o ++ cs := by
  unfold over
  have hl : (cur.toList.take o ++ cs).length = o + cs.length := by simp; omega
  rw [← hl]
  exact List.take_left
theorem over_take_le (cur : Array Value) (o k : Nat) (cs : List Value) (h : o + cs.length ≤ cur.size) (hk : k ≤ o) : (over cur o cs).toList.take k = cur.toList.take k := by
  unfold over
  simp only [List.append_assoc]
  rw [List.take_append_of_le_length (by simp; omega), List.take_take, Nat.min_eq_left hk]

/-- clear at elements of some cells, over a block that is known whole. -/
theorem run_clear_row {P : Program} (w : World) (t e ty : TypeId) (z : Value) (ht : P.underlying t = some (.slice e)) (hv : ∀ w, (zeroValue e).run P w = .ok z w) (h1 : ∀ v ∈ z.cells, v.oneCell' = true) (hz0 : 0 < z.cells.size)
    (g o n c : Nat) (cur : Array Value) (T : TypeId) (hg : w.heap[g]? = some (.cells cur T (0, 0))) (hn : 0 < n) (hfit : o + n * z.cells.size ≤ cur.size) :
    (Builtin.clear_ #[t] ty #[.slice (some ⟨g, o, none⟩) n c]).run P w = .ok (.tuple #[]) (w.setRow g (over cur o (Builtin.zeroCells z.cells n).toList)) := by
  have hl : (Builtin.zeroCells z.cells n).toList.length = n * z.cells.size := by rw [Array.length_toList, size_zeroCells]
  have hst := run_storeCells_at P g o T (Builtin.zeroCells z.cells n).toList 0 cur w hg (by rw [hl]; omega) (by
    intro v hv'
    have : v ∈ Builtin.zeroCells z.cells n := by simpa using hv'
    unfold Builtin.zeroCells at this
    obtain ⟨i, hi, rfl⟩ := Array.mem_map.1 this
    have hlt : i % z.cells.size < z.cells.size := Nat.mod_lt _ hz0
    rw [getElem!_pos z.cells _ hlt]
    exact h1 _ (Array.getElem_mem hlt))
  simp only [Nat.add_zero] at hst
  obtain ⟨m, rfl⟩ : ∃ m, n = m + 1 := ⟨n - 1, by omega⟩
  simp [Builtin.clear_, run_underlying ht, hv, hst, over]

theorem row_info : (Try.prog.info? 71).map (fun i => (i.zero, i.size, i.bytes)) = some (some (.agg #[.int .u32 0, .int .u32 0]), 2, 8) := by kernel_rfl
theorem row_zero : ∀ w, (zeroValue 71).run Try.prog w = .ok (.agg #[.int .u32 0, .int .u32 0]) w := fun _ => by kernel_rfl

/-- What Delete leaves. -/
def Deleted (w : World) (B : Nat) (v : Value) (n : Nat) (xs : List Value) (e : Ending) (w' : World) : Prop :=
  ∃ v', e = .returned v' ∧ w'.ownsRow B 71 2 v' n xs ∧ w.grownBy w' v.ownBlock ∧ v'.ownBlock = v.ownBlock

set_option maxHeartbeats 1000000 in
theorem delete_core {w : World} {B n i j m : Nat} {v : Value} {xs ys : List Value} (own : w.ownsRow B 71 2 v n xs) (h1 : ∀ u ∈ xs, u.oneCell' = true) (hij : i ≤ j) (hj : j ≤ n) (hn : n ≤ 5000)
    (HM : Hid (m = n - (j - i) ∧ ys = xs.take (2 * i) ++ xs.drop (2 * j))) :
    Calls Try.prog 35 #[v, .int .i64 (i : Int), .int .i64 (j : Int)] w (Deleted w B v m ys) := by
  obtain ⟨i0, hi0, hz0, hz1, hz2⟩ := info_parts row_info
  rcases own.2 with ⟨rfl, rfl⟩ | ⟨g, cap, cur, rfl, hbg, hg, hnc, hcm, hcs, htake⟩
  · obtain rfl : i = 0 := by omega
    obtain rfl : j = 0 := by omega
    have H : Hid (Deleted w B (.slice none 0 0) m ys (.returned (.slice none 0 0)) w) := ⟨_, rfl, by rw [HM.out.1, HM.out.2]; simpa using own, World.grownBy.refl w _, rfl⟩
    clear own
    go_enter Try.func35, Try.ntmps35
    go_wp2
    go_ret
    exact H.out
  · by_cases heq : i = j
    · subst heq
      have H : Hid (Deleted w B (.slice (some ⟨g, 0, none⟩) n cap) m ys (.returned (.slice (some ⟨g, 0, none⟩) n cap)) w) := ⟨_, rfl, by rw [HM.out.1, HM.out.2]; simpa using own, World.grownBy.refl w _, rfl⟩
      clear own hg hcs htake
      unfold maxLen at hcm
      go_enter Try.func35, Try.ntmps35
      go_wp2
      all_goals (go_ret; first | exact H.out | (have e : n = i := (by omega); subst e; exact H.out))
    · have hlt : i < j := by omega
      have hxl := own.1
      have hic : i ≤ cap := by omega
      have hjc : j ≤ cap := by omega
      have hcn : ¬ cap = i + (n - j) := by omega
      have hcm' := hcm
      unfold maxLen at hcm
      obtain ⟨news, hnews⟩ : ∃ news, news = xs.drop (2 * j) := ⟨_, rfl⟩
      have hnl : news.length = (n - j) * 2 := by rw [hnews, List.length_drop, hxl]; omega
      have hcx : ∀ k, k < n * 2 → cur.toList[k]? = xs[k]? := fun k hk => by rw [← htake, List.getElem?_take, if_pos hk]
      obtain ⟨A, hA, hsrc⟩ : ∃ A : Addr, (if cap = j then (some (⟨g, 0, none⟩ : Addr)) else some ⟨g, j * 2, none⟩) = some A ∧ ∀ t u, news[t]? = some u → w.drew.cell? (A.add t) = some u := by
        by_cases h : cap = j
        · refine ⟨⟨g, 0, none⟩, by simp [h], fun t u hu => ?_⟩
          have h0 : news.length = 0 := by rw [hnl]; omega
          rw [List.length_eq_zero_iff.1 h0] at hu
          simp at hu
        · refine ⟨⟨g, j * 2, none⟩, by simp [h], fun t u hu => ?_⟩
          have ht : t < (n - j) * 2 := by
            have := (List.getElem?_eq_some_iff.1 hu).1
            rwa [hnl] at this
          rw [Addr.add_lit, cell_of_row w.drew g (j * 2 + t) cur _ (0, 0) hg, ← Array.getElem?_toList, hcx _ (by omega), ← hu, hnews, List.getElem?_drop, Nat.mul_comm]
      have hf1 : i * 2 + news.length ≤ cur.size := by rw [hnl, hcs]; omega
      have hr : ∀ ty, (Builtin.append_ #[64, 64] ty #[.slice (some ⟨g, 0, none⟩) i cap, .slice (some A) (n - j) (cap - j)]).run Try.prog w.drew = .ok (.slice (some ⟨g, 0, none⟩) (i + (n - j)) cap) (w.drew.setRow g (over cur (i * 2) news)) := fun ty => by
        have := run_append_room (P := Try.prog) w.drew 64 ty 71 i0 Try.underlying64 hi0 g i cap cur hg A (n - j) (cap - j) news (by rw [hz1]; exact hnl) hsrc (by rw [hnews]; exact fun u hu => h1 u (List.mem_of_mem_drop hu)) (by omega) (by rw [hz1]; exact hf1)
        rw [hz1] at this
        exact this
      obtain ⟨W1, hW1⟩ : ∃ W1, W1 = w.drew.setRow g (over cur (i * 2) news) := ⟨_, rfl⟩
      rw [← hW1] at hr
      have hg1 : W1.heap[g]? = some (.cells (over cur (i * 2) news) 71 (0, 0)) := by rw [hW1]; exact setRow_heap w.drew g cur _ _ _ hg
      have hs1 := over_size cur (i * 2) news hf1
      have hcl : ∀ ty c, (Builtin.clear_ #[64] ty #[.slice (some ⟨g, (i + (n - j)) * 2, none⟩) (n - (i + (n - j))) c]).run Try.prog W1 = .ok (.tuple #[]) (W1.setRow g (over (over cur (i * 2) news) ((i + (n - j)) * 2) (Builtin.zeroCells #[.int .u32 0, .int .u32 0] (n - (i + (n - j)))).toList)) := fun ty c =>
        run_clear_row W1 64 71 ty (.agg #[.int .u32 0, .int .u32 0]) Try.underlying64 row_zero (by simp [Value.cells, Value.oneCell']) (by simp [Value.cells]) g _ _ c _ _ hg1 (by omega) (by rw [hs1, hcs]; simp [Value.cells]; omega)
      obtain ⟨W2, hW2⟩ : ∃ W2, W2 = W1.setRow g (over (over cur (i * 2) news) ((i + (n - j)) * 2) (Builtin.zeroCells #[.int .u32 0, .int .u32 0] (n - (i + (n - j)))).toList) := ⟨_, rfl⟩
      rw [← hW2] at hcl
      have H : Hid (Deleted w B (.slice (some ⟨g, 0, none⟩) n cap) m ys (.returned (.slice (some ⟨g, 0, none⟩) (i + (n - j)) cap)) W2) := by
        have zl : (Builtin.zeroCells #[Value.int .u32 0, Value.int .u32 0] (n - (i + (n - j)))).toList.length = (n - (i + (n - j))) * 2 := by rw [Array.length_toList, size_zeroCells]; rfl
        have hf2 : (i + (n - j)) * 2 + (Builtin.zeroCells #[Value.int .u32 0, Value.int .u32 0] (n - (i + (n - j)))).toList.length ≤ (over cur (i * 2) news).size := by rw [zl, hs1, hcs]; omega
        refine ⟨_, rfl, ?_, ?_, rfl⟩
        · rw [HM.out.1, HM.out.2]
          have en : n - (j - i) = i + (n - j) := by omega
          rw [en]
          refine ⟨by rw [List.length_append, List.length_take, List.length_drop, hxl]; omega, .inr ⟨g, cap, _, rfl, hbg, by rw [hW2]; exact setRow_heap W1 g _ _ _ _ hg1, by omega, hcm', by rw [over_size _ _ _ hf2, hs1, hcs], ?_⟩⟩
          rw [over_take_le _ _ _ _ hf2 (Nat.le_refl _), show (i + (n - j)) * 2 = i * 2 + news.length by rw [hnl]; omega, over_take _ _ _ hf1, hnews, ← htake, List.take_take]
          congr 2
          omega
        · refine ⟨by rw [hW2, hW1]; rfl, by rw [hW2, hW1]; rfl, by rw [hW2, hW1]; rfl, by rw [hW2, hW1]; simp [World.setRow], fun k hk hne => ?_⟩
          have hkg : k ≠ g := fun e => hne (by simp [Value.ownBlock, e])
          rw [hW2, setRow_other _ _ _ _ hkg, hW1, setRow_other _ _ _ _ hkg]
          rfl
      have HR := Lib.hid hr
      clear own hg hcs htake hxl hnews hnl hcx hsrc hf1 hr hW1 hg1 hs1 hW2 hi0 hz0 hz1 hz2 hcm'
      have HA := Lib.hid hA
      go_enter Try.func35, Try.ntmps35
      go_wp2_with fail
      go_region_law (refine step_append_run rfl (.tmp 22) (.tmp 25) 64 64 rfl _ _ (by simp [Act.eval, Act.put]) (by simp [Act.eval, Act.put, hA]) (HR.out _) ?_)
      go_wp2
      go_ret
      exact H.out
end Go.Proofs.Ytgbkmnmkejcogaa.Span
