/-
  slices.Insert of one row of two cells.
-/
import Derived.Test.YtgbkmnmkejcogaaSpanRows
import Derived.Deep.RegionLaw
import Derived.Lib.Overlaps
import Derived.Laws.IdiomCopy
import Derived.Maps.AppendAt
set_option linter.unusedVariables false
set_option linter.unusedSimpArgs false
namespace Go.Proofs.Ytgbkmnmkejcogaa.Span
open Go.ChangeShapes Go.WideShapes Go.ChangeAt Go.RowKit Go.Proofs.Ytgbkmnmkejcogaa.Ser

theorem step_copy_run {P : Program} {ops : Array Oper} {o : Oper} {a : Act} {w : World} {K : Act → World → Prop} {Q : Exit → Act → World → Prop} {E : Prop}
    (hg : o.guard = none) (d x : Operand) (dT sT : TypeId) (hop : o.op = Op.call { callee := Callee.builtin Builtin.copy, args := #[d, x], argTypes := #[dT, sT] })
    (v u : Value) (hd : a.eval d = v) (hx : a.eval x = u) {v' : Value} {w' : World} (hr : (Builtin.copy_ #[dT, sT] o.type #[v, u]).run P w = .ok v' w') (hK : K (a.put o.dst v') w') :
    if Region.wanted o (yielded ops a.tmps) = true then Oper.wp P o a w K Q else E := by
  have hw : Region.wanted o (yielded ops a.tmps) = true := by simp [Region.wanted, hg]
  rw [if_pos hw]
  unfold Oper.wp
  simp [execOp, hop, resolve, invoke, builtin, hd, hx, hr, Result.andThen]
  exact hK
theorem wp_copy_run {P : Program} (w : World) {o : Oper} {a : Act} {K : Act → World → Prop} {Q : Exit → Act → World → Prop} (d s : Operand) (t t' : TypeId)
    (ho : o.op = .call { callee := .builtin .copy, args := #[d, s], argTypes := #[t, t'] }) (v u : Value) (hd : a.eval d = v) (hs : a.eval s = u) {v' : Value} {w' : World}
    (hr : (Builtin.copy_ #[t, t'] o.type #[v, u]).run P w = .ok v' w') (h : K (a.put o.dst v') w') : o.wp P a w K Q := by
  unfold Oper.wp execOp
  simp only [ho, resolve, invoke, builtin, Sem.run_bind, Sem.run_pure, Result.andThen_ok, List.map_toArray, List.map_cons, List.map_nil, hd, hs, hr]
  exact h
theorem wpList_copy_run {P : Program} (w : World) {ops : Array Oper} {rest : List Oper} {o : Oper} {a : Act} {Q : Exit → Act → World → Prop} (hgd : o.guard = none) (d s : Operand) (t t' : TypeId)
    (ho : o.op = .call { callee := .builtin .copy, args := #[d, s], argTypes := #[t, t'] }) (v u : Value) (hd : a.eval d = v) (hs : a.eval s = u) {v' : Value} {w' : World}
    (hr : (Builtin.copy_ #[t, t'] o.type #[v, u]).run P w = .ok v' w') (h : wpList P ops Q rest (a.put o.dst v') w') : wpList P ops Q (o :: rest) a w :=
  wpList_plain hgd fun _ hK => wp_copy_run w d s t t' ho v u hd hs hr (hK _ _ h)
theorem wp_append_run {P : Program} (w : World) {o : Oper} {a : Act} {K : Act → World → Prop} {Q : Exit → Act → World → Prop} (s x : Operand) (t tn : TypeId)
    (ho : o.op = .call { callee := .builtin .append, args := #[s, x], argTypes := #[t, tn] }) (vs vx : Value) (hs : a.eval s = vs) (hx : a.eval x = vx)
    (v' : Value) (w' : World) (hr : (Builtin.append_ #[t, tn] o.type #[vs, vx]).run P w = .ok v' w') (h : K (a.put o.dst v') w') : o.wp P a w K Q := by
  unfold Oper.wp execOp
  simp only [ho, resolve, invoke, builtin, Sem.run_bind, Sem.run_pure, Result.andThen_ok, List.map_toArray, List.map_cons, List.map_nil, hs, hx, hr]
  exact h
theorem wpList_append_run {P : Program} (w : World) {ops : Array Oper} {rest : List Oper} {o : Oper} {a : Act} {Q : Exit → Act → World → Prop} (hgd : o.guard = none) (s x : Operand) (t tn : TypeId)
    (ho : o.op = .call { callee := .builtin .append, args := #[s, x], argTypes := #[t, tn] }) (vs vx : Value) (hs : a.eval s = vs) (hx : a.eval x = vx)
    (v' : Value) (w' : World) (hr : (Builtin.append_ #[t, tn] o.type #[vs, vx]).run P w = .ok v' w') (h : wpList P ops Q rest (a.put o.dst v') w') : wpList P ops Q (o :: rest) a w :=
  wpList_plain hgd fun _ hK => wp_append_run w s x t tn ho vs vx hs hx v' w' hr (hK _ _ h)

/-- copy at elements of some cells, into a block that is known whole. -/
theorem run_copy_rows {P : Program} (w : World) (dT sT ty elem : TypeId) (g o dLen dCap : Nat) (a : Addr) (sLen sCap : Nat) (cur : Array Value) (t : TypeId) (cs : List Value) (sz k : Nat)
    (hu : P.underlying dT = some (.slice elem)) (hs : (P.info? elem).map (·.size) = some sz)
    (hg : w.heap[g]? = some (.cells cur t (0, 0))) (hk : Nat.min sLen dLen = k) (hn : cs.length = k * sz)
    (hsrc : ∀ j v, cs[j]? = some v → w.cell? (a.add j) = some v) (hfit : o + cs.length ≤ cur.size) (h1 : ∀ v ∈ cs, v.oneCell' = true) :
    (Builtin.copy_ #[dT, sT] ty #[.slice (some ⟨g, o, none⟩) dLen dCap, .slice (some a) sLen sCap]).run P w = .ok (goInt k) (w.setRow g (over cur o cs)) := by
  have hl := run_loadCells_list (P := P) w a cs hsrc
  have hst := run_storeCells_at P g o t cs 0 cur w hg (by simpa using hfit) h1
  cases hq : P.info? elem with
  | none => simp [hq] at hs
  | some i =>
    have hi : i.size = sz := by simpa [hq] using hs
    rw [hn] at hl
    simp [Builtin.copy_, run_underlying hu, Builtin.lenOf, Builtin.firstCells, sizeOf, typeInfo, hq, hi, hk, hl, hst, over]

/-- append(s[:i], make([]T, k)..), no room: a new row. -/
theorem run_append_zeros_grow {P : Program} (w : World) (t tn ty e : TypeId) (i : TypeInfo) (z : Value) (kd kn : IntKind) (ht : P.underlying t = some (.slice e)) (htn : P.underlying tn = some (.int kn)) (hi : P.info? e = some i) (hz : i.zero = some z)
    (b : Addr) (sLen sCap : Nat) (olds : List Value) (hlo : olds.length = sLen * i.size) (holds : ∀ j v, olds[j]? = some v → w.cell? (b.add j) = some v)
    (n : Nat) (q : Int) (hq : q = n) (h0 : 0 < n) (hs : 0 < i.size) (hg : sCap < sLen + n) (hb : i.bytes = 8) (hsm : sLen + n ≤ 10000) :
    (Builtin.append_ #[t, tn] ty #[.slice (some b) sLen sCap, .int kd q]).run P w =
      .ok (.slice (some ⟨w.heap.size, 0, none⟩) (sLen + n) (grownCap w (sLen + n) sCap e)) (w.drew.alloc (.cells (olds.toArray ++ Builtin.zeroCells z.cells n ++ Builtin.zeroCells z.cells (grownCap w (sLen + n) sCap e - (sLen + n))) e)) := by
  subst hq
  have hn : ¬ (sLen + n ≤ sCap) := by omega
  have hw : IntKind.i64.wrap (n : Int) = n := by rw [IntKind.wrap_i64]; omega
  have h63' : ¬ (9223372036854775807 < ((sLen : Int) + (n : Int))) := by omega
  have h48' : ¬ (281474976710656 < Builtin.nextslicecap (sLen + n) sCap * 8) := by
    have := growslice_fits (bytes := 8) hg (by omega)
    omega
  have h48i : ¬ (281474976710656 < (n : Int) * 8) := by omega
  have hneg : ¬ ((n : Int) < 0) := by omega
  have hns : ¬ (n * i.size = 0) := Nat.mul_ne_zero (by omega) (by omega)
  have hns1 : ¬ (n = 0) := by omega
  have hns2 : ¬ (i.size = 0) := by omega
  have hfo := run_firstCells_some (P := P) w.drew i.size sLen b sLen sCap olds hlo (by simpa using holds)
  simp [Builtin.append_, run_underlying ht, run_underlying htn, sizeOf, typeInfo, zeroValue, hi, hz, hb, asInt, asIntOf, hw, hn, hneg, hns, hns1, hns2, h63', h48', h48i, Question.forced, hfo, newRow, grownCap]

theorem insert_over (cur : Array Value) (o : Nat) (x0 x1 : Value) (D : List Value) (h : o + 2 + D.length ≤ cur.size) :
    (over (over cur (o + 2) D) o [x0, x1]).toList.take (o + 2 + D.length) = cur.toList.take o ++ [x0, x1] ++ D := by
  have h1 : (over cur (o + 2) D).toList.take o = cur.toList.take o := over_take_le cur (o + 2) o D h (by omega)
  have h2 : (over cur (o + 2) D).toList.drop (o + 2) = D ++ cur.toList.drop (o + 2 + D.length) := by
    unfold over
    have hl : (cur.toList.take (o + 2)).length = o + 2 := by simp; omega
    simp only [List.append_assoc]
    have e := List.drop_left (l₁ := cur.toList.take (o + 2)) (l₂ := D ++ cur.toList.drop (o + 2 + D.length))
    rw [hl] at e
    exact e
  have h3 : (over (over cur (o + 2) D) o [x0, x1]).toList = (cur.toList.take o ++ [x0, x1] ++ D) ++ cur.toList.drop (o + 2 + D.length) := by
    conv => lhs; unfold over
    show (over cur (o + 2) D).toList.take o ++ [x0, x1] ++ (over cur (o + 2) D).toList.drop (o + 2) = _
    rw [h1, h2]
    simp only [List.append_assoc]
  rw [h3]
  have hl : (cur.toList.take o ++ [x0, x1] ++ D).length = o + 2 + D.length := by simp; omega
  conv => lhs; rw [← hl]
  exact List.take_left

/-- What Insert leaves. -/
def Inserted (w : World) (B : Nat) (v : Value) (n : Nat) (xs : List Value) (e : Ending) (w' : World) : Prop :=
  ∃ v', e = .returned v' ∧ w'.ownsRow B 71 2 v' n xs ∧ w.grownBy w' v.ownBlock ∧ (v'.ownBlock = v.ownBlock ∨ v'.ownBlock = some w.heap.size)

set_option maxHeartbeats 1000000 in
theorem insert_end {w : World} {B n b m : Nat} {T : TypeId} {v x0 x1 : Value} {xs ys : List Value} (own : w.ownsRow B 71 2 v n xs) (hB : B ≤ w.heap.size) (hb : Blk w b T #[x0, x1])
    (hx : x0.oneCell' = true ∧ x1.oneCell' = true) (hn : n ≤ 5000) (HM : Hid (m = n + 1 ∧ ys = xs ++ [x0, x1])) :
    Calls Try.prog 47 #[v, .int .i64 (n : Int), .slice (some ⟨b, 0, none⟩) 1 1] w (Inserted w B v m ys) := by
  obtain ⟨i0, hi0, hz0, hz1, hz2⟩ := info_parts row_info
  have hnews : ∀ j u, [x0, x1][j]? = some u → w.cell? ((⟨b, 0, none⟩ : Addr).add j) = some u := fun j u hu => by
    rw [Addr.add_lit, hb.cell]
    simpa using hu
  have h1 : ∀ u ∈ [x0, x1], u.oneCell' = true := by simp [hx]
  have HN := Lib.hid hnews
  have H1 := Lib.hid h1
  obtain ⟨a, cap, rfl⟩ := own_slice own
  have hnc : n ≤ cap := by
    rcases own.2 with ⟨hv, h0⟩ | ⟨g, c, cur, hv, _, _, h, _⟩
    · omega
    · injection hv with _ _ hc; omega
  have hcm : cap ≤ 9223372036854775807 := by
    rcases own.2 with ⟨hv, h0⟩ | ⟨g, c, cur, hv, _, _, h, h', _⟩
    · injection hv with _ _ hc; omega
    · injection hv with _ _ hc; unfold maxLen at h'; omega
  clear hnews h1 hb hx
  have HO := Lib.hid own
  have hcase : a = none ∨ ∃ g, a = some ⟨g, 0, none⟩ := by
    rcases own.2 with ⟨hv, h0⟩ | ⟨g, c, cur, hv, _⟩
    · injection hv with h; exact .inl h
    · injection hv with h; exact .inr ⟨g, h⟩
  clear own
  rcases hcase with rfl | ⟨g, rfl⟩
  · have h0 : n = 0 := by
      rcases HO.out.2 with ⟨hv, h0⟩ | ⟨g, c, cur, hv, _⟩
      · exact h0
      · cases hv
    subst h0
    have hc0 : cap = 0 := by
      rcases HO.out.2 with ⟨hv, _⟩ | ⟨g, c, cur, hv, _⟩
      · injection hv
      · cases hv
    subst hc0
    go_enter Try.func47, Try.ntmps47
    go_wp2_with (at_builtin; refine wpList_append_own_at _ rfl (.tmp 23) (.tmp 24) 64 rfl B 71 i0 _ 2 8 Try.underlying64 hi0 hz0 hz1 hz2 rfl (by omega) (.slice none 0 0) 0 xs rfl HO.out ⟨b, 0, none⟩ 1 1 [x0, x1] rfl rfl HN.out H1.out (by simp only [maxLen]; omega) (by omega) hB ?_; intro v' w' hown hgrow _ hat; have HO2 := Lib.hid hown; have HA2 := Lib.hid hat; clear hown hat)
    go_ret
    exact ⟨v', rfl, by rw [HM.out.1, HM.out.2]; exact HO2.out, hgrow, HA2.out⟩
  · go_enter Try.func47, Try.ntmps47
    go_wp2_with (at_builtin; refine wpList_append_own_at _ rfl (.tmp 23) (.tmp 24) 64 rfl B 71 i0 _ 2 8 Try.underlying64 hi0 hz0 hz1 hz2 rfl (by omega) (.slice (some ⟨g, 0, none⟩) n cap) n xs rfl HO.out ⟨b, 0, none⟩ 1 1 [x0, x1] rfl rfl HN.out H1.out (by simp only [maxLen]; omega) (by omega) hB ?_; intro v' w' hown hgrow _ hat; have HO2 := Lib.hid hown; have HA2 := Lib.hid hat; clear hown hat)
    all_goals
      go_ret
      exact ⟨v', rfl, by rw [HM.out.1, HM.out.2]; exact HO2.out, hgrow, HA2.out⟩

set_option maxHeartbeats 1000000 in
theorem insert_shift {w : World} {B n i b m g cap : Nat} {T : TypeId} {x0 x1 : Value} {xs ys : List Value} (own : w.ownsRow B 71 2 (.slice (some ⟨g, 0, none⟩) n cap) n xs) (hb : Blk w b T #[x0, x1]) (hne : b ≠ g)
    (hx : x0.oneCell' = true ∧ x1.oneCell' = true) (h1 : ∀ u ∈ xs, u.oneCell' = true) (hn : n ≤ 5000) (hi : i < n) (hroom : n + 1 ≤ cap) (HM : Hid (m = n + 1 ∧ ys = xs.take (2 * i) ++ [x0, x1] ++ xs.drop (2 * i))) :
    Calls Try.prog 47 #[.slice (some ⟨g, 0, none⟩) n cap, .int .i64 (i : Int), .slice (some ⟨b, 0, none⟩) 1 1] w (Inserted w B (.slice (some ⟨g, 0, none⟩) n cap) m ys) := by
  have hsz : (Try.prog.info? 71).map (·.size) = some 2 := by
    obtain ⟨i0, hi0, hz0, hz1, hz2⟩ := info_parts row_info
    rw [hi0]; simp [hz1]
  rcases own.2 with ⟨h, _⟩ | ⟨g', cap', cur, h, hbg, hg, hnc, hcm, hcs, htake⟩
  · simp at h
  simp only [Value.slice.injEq, Option.some.injEq, Addr.mk.injEq, and_true, true_and] at h
  obtain ⟨rfl, rfl⟩ := h
  have hxl := own.1
  have hcm' := hcm
  unfold maxLen at hcm
  have hcx : ∀ k, k < n * 2 → cur.toList[k]? = xs[k]? := fun k hk => by rw [← htake, List.getElem?_take, if_pos hk]
  obtain ⟨D, hD⟩ : ∃ D, D = xs.drop (2 * i) := ⟨_, rfl⟩
  have hDl : D.length = (n - i) * 2 := by rw [hD, List.length_drop, hxl]; omega
  have hcap1 : ¬ cap = i + 1 := by omega
  have hcap2 : ¬ cap = i := by omega
  have hzn : ¬ ((i : Int) = (n : Int)) := by omega
  have hw1 : IntKind.i64.wrap ((i : Int) + 1) = (i : Int) + 1 := by rw [IntKind.wrap_i64]; omega
  have hbd1 : (0 : Int) ≤ (i : Int) + 1 := by omega
  have hin : i ≤ n := by omega
  have htn : ((i : Int) + 1).toNat = i + 1 := by omega
  have hbd3 : (i : Int) ≤ (n : Int) + 1 := by omega
  have hov : ∀ lb cb, (callFunc 48 #[.slice (some ⟨b, 0, none⟩) 1 1, .slice (some ⟨g, (i + 1) * 2, none⟩) lb cb]).run Try.prog w = .ok (.value (.bool false)) w := fun lb cb => by
    rw [run_callFunc_extern Try.func48 (by kernel_rfl) (by kernel_rfl) (by kernel_rfl) (e := Extern.SlicesOverlaps.overlaps #[64, 64] #[4]) (by kernel_rfl),
      Lib.run_overlaps_apart w 64 4 71 Try.underlying64 2 (fun _ => by kernel_rfl) ⟨b, 0, none⟩ ⟨g, (i + 1) * 2, none⟩ 1 1 lb cb hne T 71 2 cur.size
        (by unfold Blk at hb; simp [World.shape?, hb]) (by simp [World.shape?, hg]) (by omega) (hb.frozen 0) (hb.frozen 2)]
    rfl
  have hf1 : (i + 1) * 2 + D.length ≤ cur.size := by rw [hDl, hcs]; omega
  have hcp1 : ∀ ty dc sc, (Builtin.copy_ #[64, 64] ty #[.slice (some ⟨g, (i + 1) * 2, none⟩) (n - i) dc, .slice (some ⟨g, i * 2, none⟩) (n + 1 - i) sc]).run Try.prog w.drew = .ok (goInt ((n - i : Nat) : Int)) (w.drew.setRow g (over cur ((i + 1) * 2) D)) := fun ty dc sc =>
    run_copy_rows w.drew 64 64 ty 71 g ((i + 1) * 2) (n - i) dc ⟨g, i * 2, none⟩ (n + 1 - i) sc cur 71 D 2 (n - i) Try.underlying64 hsz hg (by simp only [Nat.min_def]; split <;> omega) hDl
      (fun j u hu => by
        have hj : j < (n - i) * 2 := by
          have := (List.getElem?_eq_some_iff.1 hu).1
          rwa [hDl] at this
        rw [Addr.add_lit, cell_of_row w.drew g (i * 2 + j) cur _ (0, 0) hg, ← Array.getElem?_toList, hcx _ (by omega), ← hu, hD, List.getElem?_drop, Nat.mul_comm])
      hf1 (by rw [hD]; exact fun u hu => h1 u (List.mem_of_mem_drop hu))
  obtain ⟨W1, hW1⟩ : ∃ W1, W1 = w.drew.setRow g (over cur ((i + 1) * 2) D) := ⟨_, rfl⟩
  rw [← hW1] at hcp1
  have hg1 : W1.heap[g]? = some (.cells (over cur ((i + 1) * 2) D) 71 (0, 0)) := by rw [hW1]; exact setRow_heap w.drew g cur _ _ _ hg
  have hs1 := over_size cur ((i + 1) * 2) D hf1
  have hb1 : Blk W1 b T #[x0, x1] := by
    unfold Blk
    rw [hW1, setRow_other _ _ _ _ hne]
    exact hb
  have hf2 : i * 2 + [x0, x1].length ≤ (over cur ((i + 1) * 2) D).size := by rw [hs1, hcs]; simp; omega
  have hcp2 : ∀ ty dc, (Builtin.copy_ #[64, 64] ty #[.slice (some ⟨g, i * 2, none⟩) (n + 1 - i) dc, .slice (some ⟨b, 0, none⟩) 1 1]).run Try.prog W1 = .ok (goInt 1) (W1.setRow g (over (over cur ((i + 1) * 2) D) (i * 2) [x0, x1])) := fun ty dc =>
    run_copy_rows W1 64 64 ty 71 g (i * 2) (n + 1 - i) dc ⟨b, 0, none⟩ 1 1 _ 71 [x0, x1] 2 1 Try.underlying64 hsz hg1 (by simp only [Nat.min_def]; split <;> omega) rfl
      (fun j u hu => by rw [Addr.add_lit, hb1.cell]; simpa using hu) hf2 (by simp [hx])
  obtain ⟨W2, hW2⟩ : ∃ W2, W2 = W1.setRow g (over (over cur ((i + 1) * 2) D) (i * 2) [x0, x1]) := ⟨_, rfl⟩
  rw [← hW2] at hcp2
  have H : Hid (Inserted w B (.slice (some ⟨g, 0, none⟩) n cap) m ys (.returned (.slice (some ⟨g, 0, none⟩) (n + 1) cap)) W2) := by
    refine ⟨_, rfl, ?_, ?_, .inl rfl⟩
    · rw [HM.out.1, HM.out.2]
      refine ⟨by simp only [List.length_append, List.length_take, List.length_drop, hxl, List.length_cons, List.length_nil]; omega, .inr ⟨g, cap, _, rfl, hbg, by rw [hW2]; exact setRow_heap W1 g _ _ _ _ hg1, by omega, hcm', by rw [over_size _ _ _ hf2, hs1, hcs], ?_⟩⟩
      have e := insert_over cur (i * 2) x0 x1 D (by rw [hDl, hcs]; omega)
      rw [show i * 2 + 2 = (i + 1) * 2 by omega] at e
      rw [show (n + 1) * 2 = (i + 1) * 2 + D.length by rw [hDl]; omega, e, hD, ← htake, List.take_take]
      congr 3
      omega
    · refine ⟨by rw [hW2, hW1]; rfl, by rw [hW2, hW1]; rfl, by rw [hW2, hW1]; rfl, by rw [hW2, hW1]; simp [World.setRow], fun k hk hne => ?_⟩
      have hkg : k ≠ g := fun e => hne (by simp [Value.ownBlock, e])
      rw [hW2, setRow_other _ _ _ _ hkg, hW1, setRow_other _ _ _ _ hkg]
      rfl
  have HC1 := Lib.hid hcp1
  have HC2 := Lib.hid hcp2
  clear own hg hcs htake hxl hD hDl hcx hf1 hcp1 hcp2 hW1 hg1 hs1 hW2 hcm' hf2 hb1 hb hsz h1 hx
  go_enter Try.func47, Try.ntmps47
  go_wp2_with (simp only [hov])
  go_region_law (refine step_copy_run rfl (.tmp 73) (.tmp 76) 64 64 rfl _ _ (by simp [Act.eval, Act.put]) (by simp [Act.eval, Act.put]) (HC1.out _ (cap - (i + 1)) (cap - i)) ?_)
  go_wp2_with (refine wpList_copy_run _ rfl (.tmp 80) (.tmp 81) 64 64 rfl _ _ rfl rfl (HC2.out _ (cap - i)) ?_)
  go_ret
  exact H.out

set_option maxHeartbeats 1000000 in
theorem insert_grow {w : World} {B n i b m g : Nat} {T : TypeId} {x0 x1 : Value} {xs ys : List Value} (own : w.ownsRow B 71 2 (.slice (some ⟨g, 0, none⟩) n n) n xs) (hb : Blk w b T #[x0, x1]) (hB : B ≤ w.heap.size)
    (hx : x0.oneCell' = true ∧ x1.oneCell' = true) (h1 : ∀ u ∈ xs, u.oneCell' = true) (hn : n ≤ 5000) (hi : i < n) (HM : Hid (m = n + 1 ∧ ys = xs.take (2 * i) ++ [x0, x1] ++ xs.drop (2 * i))) :
    Calls Try.prog 47 #[.slice (some ⟨g, 0, none⟩) n n, .int .i64 (i : Int), .slice (some ⟨b, 0, none⟩) 1 1] w (Inserted w B (.slice (some ⟨g, 0, none⟩) n n) m ys) := by
  obtain ⟨i0, hi0, hz0, hz1, hz2⟩ := info_parts row_info
  have hsz : (Try.prog.info? 71).map (·.size) = some 2 := by rw [hi0]; simp [hz1]
  have hxl := own.1
  have hcx := own.cellAt
  have hglt : g < w.heap.size := (own.lt g rfl).2
  obtain ⟨D, hD⟩ : ∃ D, D = xs.drop (2 * i) := ⟨_, rfl⟩
  have hDl : D.length = (n - i) * 2 := by rw [hD, List.length_drop, hxl]; omega
  obtain ⟨gc, hgc⟩ : ∃ gc, gc = grownCap w (n + 1) n 71 := ⟨_, rfl⟩
  have hgc1 : n + 1 ≤ gc := by rw [hgc]; exact grownCap_ge w (n + 1) n _
  have hgc2 : gc ≤ maxLen := by rw [hgc]; exact grownCap_le_maxLen w (n + 1) n _ (by unfold maxLen; omega)
  have hgc3 := hgc2
  unfold maxLen at hgc3
  obtain ⟨z, hz⟩ : ∃ z : Value, z = .agg #[.int .u32 0, .int .u32 0] := ⟨_, rfl⟩
  have hzc : z.cells.size = 2 := by rw [hz]; rfl
  obtain ⟨c1, hc1⟩ : ∃ c1, c1 = (xs.take (2 * i)).toArray ++ Builtin.zeroCells z.cells (n + 1 - i) ++ Builtin.zeroCells z.cells (gc - (n + 1)) := ⟨_, rfl⟩
  have hc1s : c1.size = gc * 2 := by
    rw [hc1]
    simp only [Array.size_append, size_zeroCells, hzc, List.size_toArray, List.length_take, hxl]
    omega
  have hc1t : c1.toList.take (i * 2) = xs.take (2 * i) := by
    rw [hc1]
    simp only [Array.toList_append, List.append_assoc]
    have e := List.take_left (l₁ := xs.take (2 * i)) (l₂ := (Builtin.zeroCells z.cells (n + 1 - i)).toList ++ (Builtin.zeroCells z.cells (gc - (n + 1))).toList)
    rw [show (xs.take (2 * i)).length = i * 2 by rw [List.length_take, hxl]; omega] at e
    exact e
  obtain ⟨W1, hW1⟩ : ∃ W1, W1 = w.drew.alloc (.cells c1 71) := ⟨_, rfl⟩
  have hr : ∀ ty, (Builtin.append_ #[64, 3] ty #[.slice (some ⟨g, 0, none⟩) i n, .int .i64 ((n : Int) + 1 - (i : Int))]).run Try.prog w = .ok (.slice (some ⟨w.heap.size, 0, none⟩) (n + 1) gc) W1 := fun ty => by
    have := run_append_zeros_grow (P := Try.prog) w 64 3 ty 71 i0 _ .i64 .i64 Try.underlying64 Try.underlying3 hi0 hz0 ⟨g, 0, none⟩ i n (xs.take (2 * i)) (by rw [hz1, List.length_take, hxl]; omega)
      (fun j u hu => by
        have hj : j < i * 2 := by
          have := (List.getElem?_eq_some_iff.1 hu).1
          rw [List.length_take, hxl] at this
          omega
        rw [Addr.add_lit, Nat.zero_add, hcx j (by omega), ← hu, List.getElem?_take, if_pos (by omega)])
      (n + 1 - i) ((n : Int) + 1 - (i : Int)) (by omega) (by omega) (by omega) (by omega) hz2 (by omega)
    rw [show i + (n + 1 - i) = n + 1 by omega, ← hgc, ← hz, ← hc1, ← hW1] at this
    exact this
  have hg1 : W1.heap[w.heap.size]? = some (.cells c1 71 (0, 0)) := by rw [hW1]; exact heap_alloc_new w.drew _
  have hb1 : Blk W1 b T #[x0, x1] := by
    unfold Blk
    rw [hW1]
    exact (Below.heap_alloc w.drew _ b hb.lt).trans hb
  have hf1 : i * 2 + [x0, x1].length ≤ c1.size := by rw [hc1s]; simp; omega
  have hcp1 : ∀ ty, (Builtin.copy_ #[64, 64] ty #[.slice (some ⟨w.heap.size, i * 2, none⟩) (n + 1 - i) (gc - i), .slice (some ⟨b, 0, none⟩) 1 1]).run Try.prog W1 = .ok (goInt 1) (W1.setRow w.heap.size (over c1 (i * 2) [x0, x1])) := fun ty =>
    run_copy_rows W1 64 64 ty 71 w.heap.size (i * 2) (n + 1 - i) (gc - i) ⟨b, 0, none⟩ 1 1 _ 71 [x0, x1] 2 1 Try.underlying64 hsz hg1 (by simp only [Nat.min_def]; split <;> omega) rfl
      (fun j u hu => by rw [Addr.add_lit, hb1.cell]; simpa using hu) hf1 (by simp [hx])
  have hs2 := over_size c1 (i * 2) [x0, x1] hf1
  obtain ⟨W2, hW2⟩ : ∃ W2, W2 = W1.setRow w.heap.size (over c1 (i * 2) [x0, x1]) := ⟨_, rfl⟩
  rw [← hW2] at hcp1
  have hg2 : W2.heap[w.heap.size]? = some (.cells (over c1 (i * 2) [x0, x1]) 71 (0, 0)) := by rw [hW2]; exact setRow_heap W1 _ _ _ _ _ hg1
  have hold : ∀ k, k < w.heap.size → W2.heap[k]? = w.heap[k]? := fun k hk => by
    rw [hW2, setRow_other _ _ _ _ (by omega), hW1]
    exact Below.heap_alloc w.drew _ k hk
  have hf2 : (i + 1) * 2 + D.length ≤ (over c1 (i * 2) [x0, x1]).size := by rw [hs2, hc1s, hDl]; omega
  have hcp2 : ∀ ty, (Builtin.copy_ #[64, 64] ty #[.slice (some ⟨w.heap.size, (i + 1) * 2, none⟩) (n - i) (gc - (i + 1)), .slice (some ⟨g, i * 2, none⟩) (n - i) (n - i)]).run Try.prog W2.drew = .ok (goInt ((n - i : Nat) : Int)) (W2.drew.setRow w.heap.size (over (over c1 (i * 2) [x0, x1]) ((i + 1) * 2) D)) := fun ty =>
    run_copy_rows W2.drew 64 64 ty 71 w.heap.size ((i + 1) * 2) (n - i) (gc - (i + 1)) ⟨g, i * 2, none⟩ (n - i) (n - i) _ 71 D 2 (n - i) Try.underlying64 hsz hg2 (by simp only [Nat.min_def]; split <;> omega) hDl
      (fun j u hu => by
        have hj : j < (n - i) * 2 := by
          have := (List.getElem?_eq_some_iff.1 hu).1
          rwa [hDl] at this
        rw [Addr.add_lit, show W2.drew.cell? ⟨g, i * 2 + j, none⟩ = w.cell? ⟨g, i * 2 + j, none⟩ from World.cell?_of_block (hold g hglt), hcx _ (by omega), ← hu, hD, List.getElem?_drop, Nat.mul_comm])
      hf2 (by rw [hD]; exact fun u hu => h1 u (List.mem_of_mem_drop hu))
  obtain ⟨W3, hW3⟩ : ∃ W3, W3 = W2.drew.setRow w.heap.size (over (over c1 (i * 2) [x0, x1]) ((i + 1) * 2) D) := ⟨_, rfl⟩
  rw [← hW3] at hcp2
  have H : Hid (Inserted w B (.slice (some ⟨g, 0, none⟩) n n) m ys (.returned (.slice (some ⟨w.heap.size, 0, none⟩) (n + 1) gc)) W3) := by
    refine ⟨_, rfl, ?_, ?_, .inr rfl⟩
    · rw [HM.out.1, HM.out.2]
      refine ⟨by simp only [List.length_append, List.length_take, List.length_drop, hxl, List.length_cons, List.length_nil]; omega, .inr ⟨w.heap.size, gc, _, rfl, hB, by rw [hW3]; exact setRow_heap W2.drew _ _ _ _ _ hg2, hgc1, hgc2, by rw [over_size _ _ _ hf2, hs2, hc1s], ?_⟩⟩
      rw [show (n + 1) * 2 = (i + 1) * 2 + D.length by rw [hDl]; omega, over_take _ _ _ hf2, show (i + 1) * 2 = i * 2 + [x0, x1].length by simp; omega, over_take _ _ _ hf1, hc1t, hD]
    · refine ⟨by rw [hW3, hW2, hW1]; rfl, by rw [hW3, hW2, hW1]; rfl, by rw [hW3, hW2, hW1]; rfl, by rw [hW3, hW2, hW1]; simp [World.setRow], fun k hk hne => ?_⟩
      rw [hW3, setRow_other _ _ _ _ (by omega)]
      exact hold k hk
  have HC1 := Lib.hid hcp1
  have HC2 := Lib.hid hcp2
  have HR := Lib.hid hr
  have hcap1 : ¬ gc = i + 1 := by omega
  have hcap2 : ¬ gc = i := by omega
  have hcap3 : ¬ n = i := by omega
  have hzn : ¬ ((i : Int) = (n : Int)) := by omega
  have hw1 : IntKind.i64.wrap ((i : Int) + 1) = (i : Int) + 1 := by rw [IntKind.wrap_i64]; omega
  have hbd1 : (0 : Int) ≤ (i : Int) + 1 := by omega
  have hin : i ≤ n := by omega
  have htn : ((i : Int) + 1).toNat = i + 1 := by omega
  have hbd3 : (i : Int) ≤ (n : Int) + 1 := by omega
  clear own hxl hcx hD hDl hgc hgc2 hz hzc hc1 hc1s hc1t hW1 hr hg1 hb1 hf1 hcp1 hs2 hW2 hg2 hold hf2 hcp2 hW3 h1 hx hb hsz hi0 hz0 hz1 hz2
  go_enter Try.func47, Try.ntmps47
  go_wp2_with (first
    | (at_builtin; refine wpList_append_run _ rfl (.tmp 34) (.tmp 39) 64 3 rfl _ _ rfl rfl _ _ (HR.out _) ?_)
    | ((with_reducible refine wpList_copy_run _ rfl (.tmp 43) (.tmp 44) 64 64 rfl _ _ ?e1 ?e2 (HC1.out _) ?e3); (case e1 => rfl); (case e2 => rfl)))
  go_region_law (refine step_copy_run rfl (.tmp 50) (.tmp 53) 64 64 rfl _ _ (by simp [Act.eval, Act.put]) (by simp [Act.eval, Act.put]) (HC2.out _) ?_)
  go_wp2
  go_ret
  exact H.out
end Go.Proofs.Ytgbkmnmkejcogaa.Span
