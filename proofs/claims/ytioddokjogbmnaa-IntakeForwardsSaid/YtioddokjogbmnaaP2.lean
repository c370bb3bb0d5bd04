/-
  Of the texts SpanIns, SpanAdv, SpanPut: what the laws reach.
-/
import Derived.Test.YtioddokjogbmnaaP1
import Derived.Deep.RegionLaw
import Derived.Lib.Overlaps
import Derived.Laws.IdiomCopy
import Derived.Maps.AppendAt
import Derived.RegionTactic
import Derived.BigRegion

set_option linter.unusedVariables false
set_option linter.unusedSimpArgs false
set_option maxRecDepth 100000
namespace Go.Proofs.Ytioddokjogbmnaa.Span
open Go.ChangeShapes Go.WideShapes Go.ChangeAt Go.RowKit Go.Proofs.Ytioddokjogbmnaa.Ser
theorem step_copy_run {P : Program} {ops : Array Oper} {o : Oper} {a : Act} {w : World} {K : Act → World → Prop} {Q : Exit → Act → World → Prop} {E : Prop}
    (hg : o.guard = none) (d x : Operand) (dT sT : TypeId) (hop : o.op = Op.call { callee := Callee.builtin Builtin.copy, args := #[d, x], argTypes := #[dT, sT] })
    (v u : Value) (hd : a.eval d = v) (hx : a.eval x = u) {v' : Value} {w' : World} (hr : (Builtin.copy_ #[dT, sT] o.type #[v, u]).run P w = .ok v' w') (hK : K (a.put o.dst v') w') :
    if Region.wanted o (yielded ops a.tmps) = true then Oper.wp P o a w K Q else E := by
  have hw : Region.wanted o (yielded ops a.tmps) = true := by simp [Region.wanted, hg]
  rw [if_pos hw]
  unfold Oper.wp
  simp [execOp, hop, resolve, invoke, builtin, hd, hx, hr, Result.andThen]
  exact hK
theorem wp_copy_run {P : Program} (w : World) {o : Oper} {a : Act} {K : Act → World → Prop} {Q : Exit → Act → World → Prop} (d s : Operand) (t t' : TypeId)
    (ho : o.op = .call { callee := .builtin .copy, args := #[d, s], argTypes := #[t, t'] }) (v u : Value) (hd : a.eval d = v) (hs : a.eval s = u) {v' : Value} {w' : World}
    (hr : (Builtin.copy_ #[t, t'] o.type #[v, u]).run P w = .ok v' w') (h : K (a.put o.dst v') w') : o.wp P a w K Q := by
  unfold Oper.wp execOp
  simp only [ho, resolve, invoke, builtin, Sem.run_bind, Sem.run_pure, Result.andThen_ok, List.map_toArray, List.map_cons, List.map_nil, hd, hs, hr]
  exact h
theorem wpList_copy_run {P : Program} (w : World) {ops : Array Oper} {rest : List Oper} {o : Oper} {a : Act} {Q : Exit → Act → World → Prop} (hgd : o.guard = none) (d s : Operand) (t t' : TypeId)
    (ho : o.op = .call { callee := .builtin .copy, args := #[d, s], argTypes := #[t, t'] }) (v u : Value) (hd : a.eval d = v) (hs : a.eval s = u) {v' : Value} {w' : World}
    (hr : (Builtin.copy_ #[t, t'] o.type #[v, u]).run P w = .ok v' w') (h : wpList P ops Q rest (a.put o.dst v') w') : wpList P ops Q (o :: rest) a w :=
  wpList_plain hgd fun _ hK => wp_copy_run w d s t t' ho v u hd hs hr (hK _ _ h)
theorem wp_append_run {P : Program} (w : World) {o : Oper} {a : Act} {K : Act → World → Prop} {Q : Exit → Act → World → Prop} (s x : Operand) (t tn : TypeId)
    (ho : o.op = .call { callee := .builtin .append, args := #[s, x], argTypes := #[t, tn] }) (vs vx : Value) (hs : a.eval s = vs) (hx : a.eval x = vx)
    (v' : Value) (w' : World) (hr : (Builtin.append_ #[t, tn] o.type #[vs, vx]).run P w = .ok v' w') (h : K (a.put o.dst v') w') : o.wp P a w K Q := by
  unfold Oper.wp execOp
  simp only [ho, resolve, invoke, builtin, Sem.run_bind, Sem.run_pure, Result.andThen_ok, List.map_toArray, List.map_cons, List.map_nil, hs, hx, hr]
  exact h
theorem wpList_append_run {P : Program} (w : World) {ops : Array Oper} {rest : List Oper} {o : Oper} {a : Act} {Q : Exit → Act → World → Prop} (hgd : o.guard = none) (s x : Operand) (t tn : TypeId)
    (ho : o.op = .call { callee := .builtin .append, args := #[s, x], argTypes := #[t, tn] }) (vs vx : Value) (hs : a.eval s = vs) (hx : a.eval x = vx)
    (v' : Value) (w' : World) (hr : (Builtin.append_ #[t, tn] o.type #[vs, vx]).run P w = .ok v' w') (h : wpList P ops Q rest (a.put o.dst v') w') : wpList P ops Q (o :: rest) a w :=
  wpList_plain hgd fun _ hK => wp_append_run w s x t tn ho vs vx hs hx v' w' hr (hK _ _ h)
/-- copy at elements of some cells, into a block that is known whole. -/
theorem run_copy_rows {P : Program} (w : World) (dT sT ty elem : TypeId) (g o dLen dCap : Nat) (a : Addr) (sLen sCap : Nat) (cur : Array Value) (t : TypeId) (cs : List Value) (sz k : Nat)
    (hu : P.underlying dT = some (.slice elem)) (hs : (P.info? elem).map (·.size) = some sz)
    (hg : w.heap[g]? = some (.cells cur t (0, 0))) (hk : Nat.min sLen dLen = k) (hn : cs.length = k * sz)
    (hsrc : ∀ j v, cs[j]? = some v → w.cell? (a.add j) = some v) (hfit : o + cs.length ≤ cur.size) (h1 : ∀ v ∈ cs, v.oneCell' = true) :
    (Builtin.copy_ #[dT, sT] ty #[.slice (some ⟨g, o, none⟩) dLen dCap, .slice (some a) sLen sCap]).run P w = .ok (goInt k) (w.setRow g (over cur o cs)) := by
  have hl := run_loadCells_list (P := P) w a cs hsrc
  have hst := run_storeCells_at P g o t cs 0 cur w hg (by simpa using hfit) h1
  cases hq : P.info? elem with
  | none => simp [hq] at hs
  | some i =>
    have hi : i.size = sz := by simpa [hq] using hs
    rw [hn] at hl
    simp [Builtin.copy_, run_underlying hu, Builtin.lenOf, Builtin.firstCells, sizeOf, typeInfo, hq, hi, hk, hl, hst, over]
/-- append(s[:i], make([]T, k)..), no room: a new row. -/
theorem run_append_zeros_grow {P : Program} (w : World) (t tn ty e : TypeId) (i : TypeInfo) (z : Value) (kd kn : IntKind) (ht : P.underlying t = some (.slice e)) (htn : P.underlying tn = some (.int kn)) (hi : P.info? e = some i) (hz : i.zero = some z)
    (b : Addr) (sLen sCap : Nat) (olds : List Value) (hlo : olds.length = sLen * i.size) (holds : ∀ j v, olds[j]? = some v → w.cell? (b.add j) = some v)
    (n : Nat) (q : Int) (hq : q = n) (h0 : 0 < n) (hs : 0 < i.size) (hg : sCap < sLen + n) (hb : i.bytes = 8) (hsm : sLen + n ≤ 10000) :
    (Builtin.append_ #[t, tn] ty #[.slice (some b) sLen sCap, .int kd q]).run P w =
      .ok (.slice (some ⟨w.heap.size, 0, none⟩) (sLen + n) (grownCap w (sLen + n) sCap e)) (w.drew.alloc (.cells (olds.toArray ++ Builtin.zeroCells z.cells n ++ Builtin.zeroCells z.cells (grownCap w (sLen + n) sCap e - (sLen + n))) e)) := by
  subst hq
  have hn : ¬ (sLen + n ≤ sCap) := by omega
  have hw : IntKind.i64.wrap (n : Int) = n := by rw [IntKind.wrap_i64]; omega
  have h63' : ¬ (9223372036854775807 < ((sLen : Int) + (n : Int))) := by omega
  have h48' : ¬ (281474976710656 < Builtin.nextslicecap (sLen + n) sCap * 8) := by
    have := growslice_fits (bytes := 8) hg (by omega)
    omega
  have h48i : ¬ (281474976710656 < (n : Int) * 8) := by omega
  have hneg : ¬ ((n : Int) < 0) := by omega
  have hns : ¬ (n * i.size = 0) := Nat.mul_ne_zero (by omega) (by omega)
  have hns1 : ¬ (n = 0) := by omega
  have hns2 : ¬ (i.size = 0) := by omega
  have hfo := run_firstCells_some (P := P) w.drew i.size sLen b sLen sCap olds hlo (by simpa using holds)
  simp [Builtin.append_, run_underlying ht, run_underlying htn, sizeOf, typeInfo, zeroValue, hi, hz, hb, asInt, asIntOf, hw, hn, hneg, hns, hns1, hns2, h63', h48', h48i, Question.forced, hfo, newRow, grownCap]
theorem insert_over (cur : Array Value) (o : Nat) (x0 x1 : Value) (D : List Value) (h : o + 2 + D.length ≤ cur.size) :
    (over (over cur (o + 2) D) o [x0, x1]).toList.take (o + 2 + D.length) = cur.toList.take o ++ [x0, x1] ++ D := by
  have h1 : (over cur (o + 2) D).toList.take o = cur.toList.take o := over_take_le cur (o + 2) o D h (by omega)
  have h2 : (over cur (o + 2) D).toList.drop (o + 2) = D ++ cur.toList.drop (o + 2 + D.length) := by
    unfold over
    have hl : (cur.toList.take (o + 2)).length = o + 2 := by simp; omega
    simp only [List.append_assoc]
    have e := List.drop_left (l₁ := cur.toList.take (o + 2)) (l₂ := D ++ cur.toList.drop (o + 2 + D.length))
    rw [hl] at e
    exact e
  have h3 : (over (over cur (o + 2) D) o [x0, x1]).toList = (cur.toList.take o ++ [x0, x1] ++ D) ++ cur.toList.drop (o + 2 + D.length) := by
    conv => lhs; unfold over
    show (over cur (o + 2) D).toList.take o ++ [x0, x1] ++ (over cur (o + 2) D).toList.drop (o + 2) = _
    rw [h1, h2]
    simp only [List.append_assoc]
  rw [h3]
  have hl : (cur.toList.take o ++ [x0, x1] ++ D).length = o + 2 + D.length := by simp; omega
  conv => lhs; rw [← hl]
  exact List.take_left
/-- What Insert leaves. -/
def Inserted (w : World) (B : Nat) (v : Value) (n : Nat) (xs : List Value) (e : Ending) (w' : World) : Prop :=
  ∃ v', e = .returned v' ∧ w'.ownsRow B 134 2 v' n xs ∧ w.grownBy w' v.ownBlock ∧ (v'.ownBlock = v.ownBlock ∨ v'.ownBlock = some w.heap.size)
set_option maxHeartbeats 1000000 in
theorem insert_end {w : World} {B n b m : Nat} {T : TypeId} {v x0 x1 : Value} {xs ys : List Value} (own : w.ownsRow B 134 2 v n xs) (hB : B ≤ w.heap.size) (hb : Blk w b T #[x0, x1])
    (hx : x0.oneCell' = true ∧ x1.oneCell' = true) (hn : n ≤ 5000) (HM : Hid (m = n + 1 ∧ ys = xs ++ [x0, x1])) :
    Calls Try.prog 84 #[v, .int .i64 (n : Int), .slice (some ⟨b, 0, none⟩) 1 1] w (Inserted w B v m ys) := by
  obtain ⟨i0, hi0, hz0, hz1, hz2⟩ := info_parts row_info
  have hnews : ∀ j u, [x0, x1][j]? = some u → w.cell? ((⟨b, 0, none⟩ : Addr).add j) = some u := fun j u hu => by
    rw [Addr.add_lit, hb.cell]
    simpa using hu
  have h1 : ∀ u ∈ [x0, x1], u.oneCell' = true := by simp [hx]
  have HN := Lib.hid hnews
  have H1 := Lib.hid h1
  obtain ⟨a, cap, rfl⟩ := own_slice own
  have hnc : n ≤ cap := by
    rcases own.2 with ⟨hv, h0⟩ | ⟨g, c, cur, hv, _, _, h, _⟩
    · omega
    · injection hv with _ _ hc; omega
  have hcm : cap ≤ 9223372036854775807 := by
    rcases own.2 with ⟨hv, h0⟩ | ⟨g, c, cur, hv, _, _, h, h', _⟩
    · injection hv with _ _ hc; omega
    · injection hv with _ _ hc; unfold maxLen at h'; omega
  clear hnews h1 hb hx
  have HO := Lib.hid own
  have hcase : a = none ∨ ∃ g, a = some ⟨g, 0, none⟩ := by
    rcases own.2 with ⟨hv, h0⟩ | ⟨g, c, cur, hv, _⟩
    · injection hv with h; exact .inl h
    · injection hv with h; exact .inr ⟨g, h⟩
  clear own
  rcases hcase with rfl | ⟨g, rfl⟩
  · have h0 : n = 0 := by
      rcases HO.out.2 with ⟨hv, h0⟩ | ⟨g, c, cur, hv, _⟩
      · exact h0
      · cases hv
    subst h0
    have hc0 : cap = 0 := by
      rcases HO.out.2 with ⟨hv, _⟩ | ⟨g, c, cur, hv, _⟩
      · injection hv
      · cases hv
    subst hc0
    go_enter Try.func84, Try.ntmps84
    go_wp2_with (at_builtin; refine wpList_append_own_at _ rfl (.tmp 23) (.tmp 24) 130 rfl B 134 i0 _ 2 8 Try.underlying130 hi0 hz0 hz1 hz2 rfl (by omega) (.slice none 0 0) 0 xs rfl HO.out ⟨b, 0, none⟩ 1 1 [x0, x1] rfl rfl HN.out H1.out (by simp only [maxLen]; omega) (by omega) hB ?_; intro v' w' hown hgrow _ hat; have HO2 := Lib.hid hown; have HA2 := Lib.hid hat; clear hown hat)
    go_ret
    exact ⟨v', rfl, by rw [HM.out.1, HM.out.2]; exact HO2.out, hgrow, HA2.out⟩
  · go_enter Try.func84, Try.ntmps84
    go_wp2_with (at_builtin; refine wpList_append_own_at _ rfl (.tmp 23) (.tmp 24) 130 rfl B 134 i0 _ 2 8 Try.underlying130 hi0 hz0 hz1 hz2 rfl (by omega) (.slice (some ⟨g, 0, none⟩) n cap) n xs rfl HO.out ⟨b, 0, none⟩ 1 1 [x0, x1] rfl rfl HN.out H1.out (by simp only [maxLen]; omega) (by omega) hB ?_; intro v' w' hown hgrow _ hat; have HO2 := Lib.hid hown; have HA2 := Lib.hid hat; clear hown hat)
    all_goals
      go_ret
      exact ⟨v', rfl, by rw [HM.out.1, HM.out.2]; exact HO2.out, hgrow, HA2.out⟩
set_option maxHeartbeats 1000000 in
theorem insert_shift {w : World} {B n i b m g cap : Nat} {T : TypeId} {x0 x1 : Value} {xs ys : List Value} (own : w.ownsRow B 134 2 (.slice (some ⟨g, 0, none⟩) n cap) n xs) (hb : Blk w b T #[x0, x1]) (hne : b ≠ g)
    (hx : x0.oneCell' = true ∧ x1.oneCell' = true) (h1 : ∀ u ∈ xs, u.oneCell' = true) (hn : n ≤ 5000) (hi : i < n) (hroom : n + 1 ≤ cap) (HM : Hid (m = n + 1 ∧ ys = xs.take (2 * i) ++ [x0, x1] ++ xs.drop (2 * i))) :
    Calls Try.prog 84 #[.slice (some ⟨g, 0, none⟩) n cap, .int .i64 (i : Int), .slice (some ⟨b, 0, none⟩) 1 1] w (Inserted w B (.slice (some ⟨g, 0, none⟩) n cap) m ys) := by
  have hsz : (Try.prog.info? 134).map (·.size) = some 2 := by
    obtain ⟨i0, hi0, hz0, hz1, hz2⟩ := info_parts row_info
    rw [hi0]; simp [hz1]
  rcases own.2 with ⟨h, _⟩ | ⟨g', cap', cur, h, hbg, hg, hnc, hcm, hcs, htake⟩
  · simp at h
  simp only [Value.slice.injEq, Option.some.injEq, Addr.mk.injEq, and_true, true_and] at h
  obtain ⟨rfl, rfl⟩ := h
  have hxl := own.1
  have hcm' := hcm
  unfold maxLen at hcm
  have hcx : ∀ k, k < n * 2 → cur.toList[k]? = xs[k]? := fun k hk => by rw [← htake, List.getElem?_take, if_pos hk]
  obtain ⟨D, hD⟩ : ∃ D, D = xs.drop (2 * i) := ⟨_, rfl⟩
  have hDl : D.length = (n - i) * 2 := by rw [hD, List.length_drop, hxl]; omega
  have hcap1 : ¬ cap = i + 1 := by omega
  have hcap2 : ¬ cap = i := by omega
  have hzn : ¬ ((i : Int) = (n : Int)) := by omega
  have hw1 : IntKind.i64.wrap ((i : Int) + 1) = (i : Int) + 1 := by rw [IntKind.wrap_i64]; omega
  have hbd1 : (0 : Int) ≤ (i : Int) + 1 := by omega
  have hin : i ≤ n := by omega
  have htn : ((i : Int) + 1).toNat = i + 1 := by omega
  have hbd3 : (i : Int) ≤ (n : Int) + 1 := by omega
  have hov : ∀ lb cb, (callFunc 98 #[.slice (some ⟨b, 0, none⟩) 1 1, .slice (some ⟨g, (i + 1) * 2, none⟩) lb cb]).run Try.prog w = .ok (.value (.bool false)) w := fun lb cb => by
    rw [run_callFunc_extern Try.func98 (by kernel_rfl) (by kernel_rfl) (by kernel_rfl) (e := Extern.SlicesOverlaps.overlaps #[130, 130] #[4]) (by kernel_rfl),
      Lib.run_overlaps_apart w 130 4 134 Try.underlying130 2 (fun _ => by kernel_rfl) ⟨b, 0, none⟩ ⟨g, (i + 1) * 2, none⟩ 1 1 lb cb hne T 134 2 cur.size
        (by unfold Blk at hb; simp [World.shape?, hb]) (by simp [World.shape?, hg]) (by omega) (hb.frozen 0) (hb.frozen 2)]
    rfl
  have hf1 : (i + 1) * 2 + D.length ≤ cur.size := by rw [hDl, hcs]; omega
  have hcp1 : ∀ ty dc sc, (Builtin.copy_ #[130, 130] ty #[.slice (some ⟨g, (i + 1) * 2, none⟩) (n - i) dc, .slice (some ⟨g, i * 2, none⟩) (n + 1 - i) sc]).run Try.prog w.drew = .ok (goInt ((n - i : Nat) : Int)) (w.drew.setRow g (over cur ((i + 1) * 2) D)) := fun ty dc sc =>
    run_copy_rows w.drew 130 130 ty 134 g ((i + 1) * 2) (n - i) dc ⟨g, i * 2, none⟩ (n + 1 - i) sc cur 134 D 2 (n - i) Try.underlying130 hsz hg (by simp only [Nat.min_def]; split <;> omega) hDl
      (fun j u hu => by
        have hj : j < (n - i) * 2 := by
          have := (List.getElem?_eq_some_iff.1 hu).1
          rwa [hDl] at this
        rw [Addr.add_lit, cell_of_row w.drew g (i * 2 + j) cur _ (0, 0) hg, ← Array.getElem?_toList, hcx _ (by omega), ← hu, hD, List.getElem?_drop, Nat.mul_comm])
      hf1 (by rw [hD]; exact fun u hu => h1 u (List.mem_of_mem_drop hu))
  obtain ⟨W1, hW1⟩ : ∃ W1, W1 = w.drew.setRow g (over cur ((i + 1) * 2) D) := ⟨_, rfl⟩
  rw [← hW1] at hcp1
  have hg1 : W1.heap[g]? = some (.cells (over cur ((i + 1) * 2) D) 134 (0, 0)) := by rw [hW1]; exact setRow_heap w.drew g cur _ _ _ hg
  have hs1 := over_size cur ((i + 1) * 2) D hf1
  have hb1 : Blk W1 b T #[x0, x1] := by
    unfold Blk
    rw [hW1, setRow_other _ _ _ _ hne]
    exact hb
  have hf2 : i * 2 + [x0, x1].length ≤ (over cur ((i + 1) * 2) D).size := by rw [hs1, hcs]; simp; omega
  have hcp2 : ∀ ty dc, (Builtin.copy_ #[130, 130] ty #[.slice (some ⟨g, i * 2, none⟩) (n + 1 - i) dc, .slice (some ⟨b, 0, none⟩) 1 1]).run Try.prog W1 = .ok (goInt 1) (W1.setRow g (over (over cur ((i + 1) * 2) D) (i * 2) [x0, x1])) := fun ty dc =>
    run_copy_rows W1 130 130 ty 134 g (i * 2) (n + 1 - i) dc ⟨b, 0, none⟩ 1 1 _ 134 [x0, x1] 2 1 Try.underlying130 hsz hg1 (by simp only [Nat.min_def]; split <;> omega) rfl
      (fun j u hu => by rw [Addr.add_lit, hb1.cell]; simpa using hu) hf2 (by simp [hx])
  obtain ⟨W2, hW2⟩ : ∃ W2, W2 = W1.setRow g (over (over cur ((i + 1) * 2) D) (i * 2) [x0, x1]) := ⟨_, rfl⟩
  rw [← hW2] at hcp2
  have H : Hid (Inserted w B (.slice (some ⟨g, 0, none⟩) n cap) m ys (.returned (.slice (some ⟨g, 0, none⟩) (n + 1) cap)) W2) := by
    refine ⟨_, rfl, ?_, ?_, .inl rfl⟩
    · rw [HM.out.1, HM.out.2]
      refine ⟨by simp only [List.length_append, List.length_take, List.length_drop, hxl, List.length_cons, List.length_nil]; omega, .inr ⟨g, cap, _, rfl, hbg, by rw [hW2]; exact setRow_heap W1 g _ _ _ _ hg1, by omega, hcm', by rw [over_size _ _ _ hf2, hs1, hcs], ?_⟩⟩
      have e := insert_over cur (i * 2) x0 x1 D (by rw [hDl, hcs]; omega)
      rw [show i * 2 + 2 = (i + 1) * 2 by omega] at e
      rw [show (n + 1) * 2 = (i + 1) * 2 + D.length by rw [hDl]; omega, e, hD, ← htake, List.take_take]
      congr 3
      omega
    · refine ⟨by rw [hW2, hW1]; rfl, by rw [hW2, hW1]; rfl, by rw [hW2, hW1]; rfl, by rw [hW2, hW1]; simp [World.setRow], fun k hk hne => ?_⟩
      have hkg : k ≠ g := fun e => hne (by simp [Value.ownBlock, e])
      rw [hW2, setRow_other _ _ _ _ hkg, hW1, setRow_other _ _ _ _ hkg]
      rfl
  have HC1 := Lib.hid hcp1
  have HC2 := Lib.hid hcp2
  clear own hg hcs htake hxl hD hDl hcx hf1 hcp1 hcp2 hW1 hg1 hs1 hW2 hcm' hf2 hb1 hb hsz h1 hx
  go_enter Try.func84, Try.ntmps84
  go_wp2_with (simp only [hov])
  go_region_law (refine step_copy_run rfl (.tmp 73) (.tmp 76) 130 130 rfl _ _ (by simp [Act.eval, Act.put]) (by simp [Act.eval, Act.put]) (HC1.out _ (cap - (i + 1)) (cap - i)) ?_)
  go_wp2_with (refine wpList_copy_run _ rfl (.tmp 80) (.tmp 81) 130 130 rfl _ _ rfl rfl (HC2.out _ (cap - i)) ?_)
  go_ret
  exact H.out
set_option maxHeartbeats 1000000 in
theorem insert_grow {w : World} {B n i b m g : Nat} {T : TypeId} {x0 x1 : Value} {xs ys : List Value} (own : w.ownsRow B 134 2 (.slice (some ⟨g, 0, none⟩) n n) n xs) (hb : Blk w b T #[x0, x1]) (hB : B ≤ w.heap.size)
    (hx : x0.oneCell' = true ∧ x1.oneCell' = true) (h1 : ∀ u ∈ xs, u.oneCell' = true) (hn : n ≤ 5000) (hi : i < n) (HM : Hid (m = n + 1 ∧ ys = xs.take (2 * i) ++ [x0, x1] ++ xs.drop (2 * i))) :
    Calls Try.prog 84 #[.slice (some ⟨g, 0, none⟩) n n, .int .i64 (i : Int), .slice (some ⟨b, 0, none⟩) 1 1] w (Inserted w B (.slice (some ⟨g, 0, none⟩) n n) m ys) := by
  obtain ⟨i0, hi0, hz0, hz1, hz2⟩ := info_parts row_info
  have hsz : (Try.prog.info? 134).map (·.size) = some 2 := by rw [hi0]; simp [hz1]
  have hxl := own.1
  have hcx := own.cellAt
  have hglt : g < w.heap.size := (own.lt g rfl).2
  obtain ⟨D, hD⟩ : ∃ D, D = xs.drop (2 * i) := ⟨_, rfl⟩
  have hDl : D.length = (n - i) * 2 := by rw [hD, List.length_drop, hxl]; omega
  obtain ⟨gc, hgc⟩ : ∃ gc, gc = grownCap w (n + 1) n 134 := ⟨_, rfl⟩
  have hgc1 : n + 1 ≤ gc := by rw [hgc]; exact grownCap_ge w (n + 1) n _
  have hgc2 : gc ≤ maxLen := by rw [hgc]; exact grownCap_le_maxLen w (n + 1) n _ (by unfold maxLen; omega)
  have hgc3 := hgc2
  unfold maxLen at hgc3
  obtain ⟨z, hz⟩ : ∃ z : Value, z = .agg #[.int .u32 0, .int .u32 0] := ⟨_, rfl⟩
  have hzc : z.cells.size = 2 := by rw [hz]; rfl
  obtain ⟨c1, hc1⟩ : ∃ c1, c1 = (xs.take (2 * i)).toArray ++ Builtin.zeroCells z.cells (n + 1 - i) ++ Builtin.zeroCells z.cells (gc - (n + 1)) := ⟨_, rfl⟩
  have hc1s : c1.size = gc * 2 := by
    rw [hc1]
    simp only [Array.size_append, size_zeroCells, hzc, List.size_toArray, List.length_take, hxl]
    omega
  have hc1t : c1.toList.take (i * 2) = xs.take (2 * i) := by
    rw [hc1]
    simp only [Array.toList_append, List.append_assoc]
    have e := List.take_left (l₁ := xs.take (2 * i)) (l₂ := (Builtin.zeroCells z.cells (n + 1 - i)).toList ++ (Builtin.zeroCells z.cells (gc - (n + 1))).toList)
    rw [show (xs.take (2 * i)).length = i * 2 by rw [List.length_take, hxl]; omega] at e
    exact e
  obtain ⟨W1, hW1⟩ : ∃ W1, W1 = w.drew.alloc (.cells c1 134) := ⟨_, rfl⟩
  have hr : ∀ ty, (Builtin.append_ #[130, 3] ty #[.slice (some ⟨g, 0, none⟩) i n, .int .i64 ((n : Int) + 1 - (i : Int))]).run Try.prog w = .ok (.slice (some ⟨w.heap.size, 0, none⟩) (n + 1) gc) W1 := fun ty => by
    have := run_append_zeros_grow (P := Try.prog) w 130 3 ty 134 i0 _ .i64 .i64 Try.underlying130 Try.underlying3 hi0 hz0 ⟨g, 0, none⟩ i n (xs.take (2 * i)) (by rw [hz1, List.length_take, hxl]; omega)
      (fun j u hu => by
        have hj : j < i * 2 := by
          have := (List.getElem?_eq_some_iff.1 hu).1
          rw [List.length_take, hxl] at this
          omega
        rw [Addr.add_lit, Nat.zero_add, hcx j (by omega), ← hu, List.getElem?_take, if_pos (by omega)])
      (n + 1 - i) ((n : Int) + 1 - (i : Int)) (by omega) (by omega) (by omega) (by omega) hz2 (by omega)
    rw [show i + (n + 1 - i) = n + 1 by omega, ← hgc, ← hz, ← hc1, ← hW1] at this
    exact this
  have hg1 : W1.heap[w.heap.size]? = some (.cells c1 134 (0, 0)) := by rw [hW1]; exact heap_alloc_new w.drew _
  have hb1 : Blk W1 b T #[x0, x1] := by
    unfold Blk
    rw [hW1]
    exact (Below.heap_alloc w.drew _ b hb.lt).trans hb
  have hf1 : i * 2 + [x0, x1].length ≤ c1.size := by rw [hc1s]; simp; omega
  have hcp1 : ∀ ty, (Builtin.copy_ #[130, 130] ty #[.slice (some ⟨w.heap.size, i * 2, none⟩) (n + 1 - i) (gc - i), .slice (some ⟨b, 0, none⟩) 1 1]).run Try.prog W1 = .ok (goInt 1) (W1.setRow w.heap.size (over c1 (i * 2) [x0, x1])) := fun ty =>
    run_copy_rows W1 130 130 ty 134 w.heap.size (i * 2) (n + 1 - i) (gc - i) ⟨b, 0, none⟩ 1 1 _ 134 [x0, x1] 2 1 Try.underlying130 hsz hg1 (by simp only [Nat.min_def]; split <;> omega) rfl
      (fun j u hu => by rw [Addr.add_lit, hb1.cell]; simpa using hu) hf1 (by simp [hx])
  have hs2 := over_size c1 (i * 2) [x0, x1] hf1
  obtain ⟨W2, hW2⟩ : ∃ W2, W2 = W1.setRow w.heap.size (over c1 (i * 2) [x0, x1]) := ⟨_, rfl⟩
  rw [← hW2] at hcp1
  have hg2 : W2.heap[w.heap.size]? = some (.cells (over c1 (i * 2) [x0, x1]) 134 (0, 0)) := by rw [hW2]; exact setRow_heap W1 _ _ _ _ _ hg1
  have hold : ∀ k, k < w.heap.size → W2.heap[k]? = w.heap[k]? := fun k hk => by
    rw [hW2, setRow_other _ _ _ _ (by omega), hW1]
    exact Below.heap_alloc w.drew _ k hk
  have hf2 : (i + 1) * 2 + D.length ≤ (over c1 (i * 2) [x0, x1]).size := by rw [hs2, hc1s, hDl]; omega
  have hcp2 : ∀ ty, (Builtin.copy_ #[130, 130] ty #[.slice (some ⟨w.heap.size, (i + 1) * 2, none⟩) (n - i) (gc - (i + 1)), .slice (some ⟨g, i * 2, none⟩) (n - i) (n - i)]).run Try.prog W2.drew = .ok (goInt ((n - i : Nat) : Int)) (W2.drew.setRow w.heap.size (over (over c1 (i * 2) [x0, x1]) ((i + 1) * 2) D)) := fun ty =>
    run_copy_rows W2.drew 130 130 ty 134 w.heap.size ((i + 1) * 2) (n - i) (gc - (i + 1)) ⟨g, i * 2, none⟩ (n - i) (n - i) _ 134 D 2 (n - i) Try.underlying130 hsz hg2 (by simp only [Nat.min_def]; split <;> omega) hDl
      (fun j u hu => by
        have hj : j < (n - i) * 2 := by
          have := (List.getElem?_eq_some_iff.1 hu).1
          rwa [hDl] at this
        rw [Addr.add_lit, show W2.drew.cell? ⟨g, i * 2 + j, none⟩ = w.cell? ⟨g, i * 2 + j, none⟩ from World.cell?_of_block (hold g hglt), hcx _ (by omega), ← hu, hD, List.getElem?_drop, Nat.mul_comm])
      hf2 (by rw [hD]; exact fun u hu => h1 u (List.mem_of_mem_drop hu))
  obtain ⟨W3, hW3⟩ : ∃ W3, W3 = W2.drew.setRow w.heap.size (over (over c1 (i * 2) [x0, x1]) ((i + 1) * 2) D) := ⟨_, rfl⟩
  rw [← hW3] at hcp2
  have H : Hid (Inserted w B (.slice (some ⟨g, 0, none⟩) n n) m ys (.returned (.slice (some ⟨w.heap.size, 0, none⟩) (n + 1) gc)) W3) := by
    refine ⟨_, rfl, ?_, ?_, .inr rfl⟩
    · rw [HM.out.1, HM.out.2]
      refine ⟨by simp only [List.length_append, List.length_take, List.length_drop, hxl, List.length_cons, List.length_nil]; omega, .inr ⟨w.heap.size, gc, _, rfl, hB, by rw [hW3]; exact setRow_heap W2.drew _ _ _ _ _ hg2, hgc1, hgc2, by rw [over_size _ _ _ hf2, hs2, hc1s], ?_⟩⟩
      rw [show (n + 1) * 2 = (i + 1) * 2 + D.length by rw [hDl]; omega, over_take _ _ _ hf2, show (i + 1) * 2 = i * 2 + [x0, x1].length by simp; omega, over_take _ _ _ hf1, hc1t, hD]
    · refine ⟨by rw [hW3, hW2, hW1]; rfl, by rw [hW3, hW2, hW1]; rfl, by rw [hW3, hW2, hW1]; rfl, by rw [hW3, hW2, hW1]; simp [World.setRow], fun k hk hne => ?_⟩
      rw [hW3, setRow_other _ _ _ _ (by omega)]
      exact hold k hk
  have HC1 := Lib.hid hcp1
  have HC2 := Lib.hid hcp2
  have HR := Lib.hid hr
  have hcap1 : ¬ gc = i + 1 := by omega
  have hcap2 : ¬ gc = i := by omega
  have hcap3 : ¬ n = i := by omega
  have hzn : ¬ ((i : Int) = (n : Int)) := by omega
  have hw1 : IntKind.i64.wrap ((i : Int) + 1) = (i : Int) + 1 := by rw [IntKind.wrap_i64]; omega
  have hbd1 : (0 : Int) ≤ (i : Int) + 1 := by omega
  have hin : i ≤ n := by omega
  have htn : ((i : Int) + 1).toNat = i + 1 := by omega
  have hbd3 : (i : Int) ≤ (n : Int) + 1 := by omega
  clear own hxl hcx hD hDl hgc hgc2 hz hzc hc1 hc1s hc1t hW1 hr hg1 hb1 hf1 hcp1 hs2 hW2 hg2 hold hf2 hcp2 hW3 h1 hx hb hsz hi0 hz0 hz1 hz2
  go_enter Try.func84, Try.ntmps84
  go_wp2_with (first
    | (at_builtin; refine wpList_append_run _ rfl (.tmp 34) (.tmp 39) 130 3 rfl _ _ rfl rfl _ _ (HR.out _) ?_)
    | ((with_reducible refine wpList_copy_run _ rfl (.tmp 43) (.tmp 44) 130 130 rfl _ _ ?e1 ?e2 (HC1.out _) ?e3); (case e1 => rfl); (case e2 => rfl)))
  go_region_law (refine step_copy_run rfl (.tmp 50) (.tmp 53) 130 130 rfl _ _ (by simp [Act.eval, Act.put]) (by simp [Act.eval, Act.put]) (HC2.out _) ?_)
  go_wp2
  go_ret
  exact H.out
end Go.Proofs.Ytioddokjogbmnaa.Span

set_option linter.unusedVariables false
set_option linter.unusedSimpArgs false
set_option maxRecDepth 100000
namespace Go.Proofs.Ytioddokjogbmnaa.Span
open Go.ChangeShapes Go.WideShapes Go.ChangeAt Go.RowKit Go.Proofs.Ytioddokjogbmnaa.Ser
theorem insert_any {w : World} {B n i b m : Nat} {T : TypeId} {v x0 x1 : Value} {xs ys : List Value} (own : w.ownsRow B 134 2 v n xs) (hb : Blk w b T #[x0, x1]) (hne : v.ownBlock ≠ some b) (hB : B ≤ w.heap.size)
    (hx : x0.oneCell' = true ∧ x1.oneCell' = true) (h1 : ∀ u ∈ xs, u.oneCell' = true) (hn : n ≤ 5000) (hi : i ≤ n) (HM : Hid (m = n + 1 ∧ ys = xs.take (2 * i) ++ [x0, x1] ++ xs.drop (2 * i))) :
    Calls Try.prog 84 #[v, .int .i64 (i : Int), .slice (some ⟨b, 0, none⟩) 1 1] w (Inserted w B v m ys) := by
  by_cases hin : i = n
  · subst hin
    refine insert_end own hB hb hx hn ⟨HM.out.1, ?_⟩
    have hl := own.1
    rw [HM.out.2, List.take_of_length_le (by omega), List.drop_eq_nil_of_le (by omega), List.append_nil]
  · obtain ⟨g, cap, rfl, hbg, hgl⟩ := own.form (by omega)
    have hnc : n ≤ cap := by
      rcases own.2 with ⟨hv, h0⟩ | ⟨g, c, cur, hv, _, _, h, _⟩
      · omega
      · injection hv with _ _ hc; omega
    by_cases hroom : n + 1 ≤ cap
    · exact insert_shift own hb (by intro e; exact hne (by simp [Value.ownBlock, e])) hx h1 hn (by omega) hroom HM
    · obtain rfl : cap = n := by omega
      exact insert_grow own hb hB hx h1 hn (by omega) HM
theorem flat_one (M : Int) : ∀ (rs : List (Nat × Nat)), ∀ u ∈ flat M rs, u.oneCell' = true
  | [], u, h => by cases h
  | r :: rs, u, h => by
    simp only [flat, List.mem_cons] at h
    rcases h with rfl | rfl | h
    · rfl
    · rfl
    · exact flat_one M rs u h
theorem flat_set1 (M : Int) (x : Nat) (r : Nat × Nat) (Y : List (Nat × Nat)) : ∀ X : List (Nat × Nat), (flat M (X ++ r :: Y)).set (X.length * 2) (.int .u32 (adr M x)) = flat M (X ++ (x, r.2) :: Y)
  | [] => rfl
  | s :: X => by
    have := flat_set1 M x r Y X
    simp only [List.cons_append, flat, List.length_cons, Nat.add_mul, Nat.one_mul, List.set_cons_succ]
    rw [this]
theorem flat_set2 (M : Int) (x : Nat) (r : Nat × Nat) (Y : List (Nat × Nat)) : ∀ X : List (Nat × Nat), (flat M (X ++ r :: Y)).set (X.length * 2 + 1) (.int .u32 (adr M x)) = flat M (X ++ (r.1, x) :: Y)
  | [] => rfl
  | s :: X => by
    have := flat_set2 M x r Y X
    rw [show (s :: X).length * 2 + 1 = X.length * 2 + 1 + 1 + 1 by simp only [List.length_cons]; omega]
    simp only [List.cons_append, flat, List.set_cons_succ]
    rw [this]
theorem flat_take (M : Int) (X Y : List (Nat × Nat)) : (flat M (X ++ Y)).take (2 * X.length) = flat M X := by
  rw [flat_append, ← flat_length M X]; exact List.take_left
theorem flat_drop (M : Int) (X Y : List (Nat × Nat)) : (flat M (X ++ Y)).drop (2 * X.length) = flat M Y := by
  rw [flat_append, ← flat_length M X]; exact List.drop_left
theorem Blk.drewN {w : World} {g : Nat} {t : TypeId} {cs : Array Value} (h : Blk w g t cs) (n : Nat) : Blk (w.drewN n) g t cs := h
theorem Blk.set_ {w : World} {g : Nat} {t : TypeId} {cs : Array Value} (h : Blk w g t cs) (i : Nat) (u : Value) : Blk (w.setCell ⟨g, i, none⟩ u) g t (cs.setIfInBounds i u) := by
  unfold Blk at h ⊢
  simp [World.setCell, Array.getElem?_modify, h]
theorem Blk.far {w : World} {g : Nat} {t : TypeId} {cs : Array Value} (h : Blk w g t cs) {a : Addr} (ha : g ≠ a.block) (u : Value) : Blk (w.setCell a u) g t cs := (Below.heap_setCell w a u g ha).trans h
theorem Blk.grown {w w' : World} {row : Option Nat} {g : Nat} {t : TypeId} {cs : Array Value} (h : Blk w g t cs) (hb : w.grownBy w' row) (hg : some g ≠ row) : Blk w' g t cs := (hb.block g h.lt hg).trans h
theorem SetAt.ne {w : World} {B p : Nat} {v : Value} {M : Int} {rs : List (Nat × Nat)} (h : SetAt w B p v M rs) : v.ownBlock ≠ some p := by
  rcases h.own.2 with ⟨rfl, _⟩ | ⟨g, cap, cur, rfl, _, hh, _⟩
  · simp [Value.ownBlock]
  · intro he
    have e : g = p := by simpa [Value.ownBlock] using he
    subst e
    have hb := h.blk
    unfold Blk at hb
    rw [hh] at hb
    injection hb with hb
    injection hb with _ ht
    cases ht
theorem grownBy_set (w : World) (p i : Nat) (u : Value) : w.grownBy (w.setCell ⟨p, i, none⟩ u) (some p) := ⟨rfl, rfl, rfl, by simp [World.setCell], fun k _ hk => Below.heap_setCell w _ u k (fun e => hk (by simp [e]))⟩
/-- What a call on the set at p has changed: its struct and the row that it owns. -/
structure Turned (w w' : World) (p : Nat) (v v' : Value) : Prop where
  os : w'.os = w.os
  tape : w'.tape = w.tape
  output : w'.output = w.output
  size : w.heap.size ≤ w'.heap.size
  block : ∀ k, k < w.heap.size → k ≠ p → some k ≠ v.ownBlock → w'.heap[k]? = w.heap[k]?
  row : v'.ownBlock = v.ownBlock ∨ v'.ownBlock = none ∨ ∃ g, v'.ownBlock = some g ∧ w.heap.size ≤ g
theorem Turned.refl (w : World) (p : Nat) (v : Value) : Turned w w p v v := ⟨rfl, rfl, rfl, Nat.le_refl _, fun _ _ _ _ => rfl, .inl rfl⟩
theorem Turned.trans {a b c : World} {p : Nat} {u v x : Value} (h : Turned a b p u v) (k : Turned b c p v x) : Turned a c p u x := by
  refine ⟨k.os.trans h.os, k.tape.trans h.tape, k.output.trans h.output, Nat.le_trans h.size k.size, fun i hi hp hu => ?_, ?_⟩
  · refine (k.block i (Nat.lt_of_lt_of_le hi h.size) hp ?_).trans (h.block i hi hp hu)
    rcases h.row with e | e | ⟨g, e, hg⟩
    · rwa [e]
    · rw [e]; simp
    · rw [e]; intro e2; injection e2; omega
  · rcases k.row with e | e | ⟨g, e, hg⟩
    · rw [e]; exact h.row
    · exact .inr (.inl e)
    · exact .inr (.inr ⟨g, e, Nat.le_trans h.size hg⟩)
theorem Turned.of_below {w w' : World} (hb : Below w.heap.size w w') (p : Nat) (v : Value) : Turned w w' p v v := ⟨hb.os, hb.tape, hb.output, hb.size, fun k hk _ _ => hb.block k hk, .inl rfl⟩
theorem Turned.of_set (w : World) (p i : Nat) (u v : Value) : Turned w (w.setCell ⟨p, i, none⟩ u) p v v := ⟨rfl, rfl, rfl, by simp [World.setCell], fun k _ hk _ => Below.heap_setCell w _ u k hk, .inl rfl⟩
theorem Turned.of_grown {w w' : World} {p : Nat} {v v' : Value} (hg : w.grownBy w' v.ownBlock) (hv : v'.ownBlock = v.ownBlock ∨ v'.ownBlock = some w.heap.size) : Turned w w' p v v' :=
  ⟨hg.os, hg.tape, hg.output, hg.size, fun k hk _ hr => hg.block k hk hr, hv.elim .inl fun h => .inr (.inr ⟨_, h, Nat.le_refl _⟩)⟩
theorem Turned.drewN {a w : World} {p : Nat} {u v : Value} (h : Turned a w p u v) (n : Nat) : Turned a (w.drewN n) p u v := ⟨h.os, h.tape, h.output, h.size, h.block, h.row⟩
/-- What advance leaves. -/
def Advanced (w : World) (B p : Nat) (v : Value) (M : Int) (rs : List (Nat × Nat)) (e : Ending) (w' : World) : Prop :=
  ∃ k v' rs', e = .returned (.tuple #[]) ∧ SetAt w' B p v' (adr M k) rs' ∧ Gp 2 rs' ∧ Adv (knB rs) k (knB rs') ∧ k ≤ 4096 ∧ Turned w w' p v v'
set_option maxHeartbeats 1000000 in
theorem advance_any {w : World} {B p : Nat} {v : Value} {M : Int} {rs : List (Nat × Nat)} (h : SetAt w B p v M rs) (hg : Gp 1 rs) :
    Calls Try.prog 72 #[ptr p] w (Advanced w B p v M rs) := by
  have h0 := h.mark
  have h1 := h.rows
  have hf0 := h.blk.frozen 0
  have hf1 := h.blk.frozen 1
  have hl := gp_len hg
  obtain ⟨n, hn⟩ : ∃ n, n = rs.length := ⟨_, rfl⟩
  cases rs with
  | nil =>
    have H : ∀ q, Hid (Advanced w B p v M [] (.returned (.tuple #[])) (w.drewN q)) := fun q => ⟨0, v, [], rfl, by rw [adr_zero M h.hM]; exact h.drewN q, gp_nil 2, (adv_none hg (by simp)).2, by omega, (Turned.refl w p v).drewN q⟩
    obtain ⟨a, cap, rfl⟩ := own_slice h.own
    clear h hg
    simp only [List.length_nil] at h1
    have hc : decide (0 < (0 : Nat)) = false := rfl
    go_enter Try.func72, Try.ntmps72
    go_wp2
    go_quiet (fail)
    go_wp2
    go_end0
    exact (H _).out
  | cons r rs =>
    obtain ⟨g, cap, hv, hbg, hgl, c0, c1⟩ := h.at_ (k := 0) (by simp)
    simp only [List.getElem_cons_zero] at c0 c1
    have hM := h.hM
    have HS := Lib.hid h
    have HG := Lib.hid hg
    have hr := hg.2 r (by simp)
    rw [← hn] at hv
    have hn1 : 1 ≤ n := by rw [hn]; simp
    rw [← hn] at hl
    have HN := Lib.hid hn
    have hc : decide (0 < n) = true := decide_eq_true hn1
    have hc0 : 0 < n := hn1
    subst hv
    by_cases hr1 : r.1 = 1
    · have ht : (adr M r.1 == (M + 1) % 4294967296) = true := by rw [hr1]; simp [adr]
      have hne := h.ne
      have HN2 := Lib.hid hne
      have C : ∀ q, Calls Try.prog 76 #[.slice (some ⟨g, 0, none⟩) n cap, .int .i64 0, .int .i64 1] ((w.drewN q).setCell ⟨p, 0, none⟩ (.int .u32 (adr M r.2))) (Deleted ((w.drewN q).setCell ⟨p, 0, none⟩ (.int .u32 (adr M r.2))) B (.slice (some ⟨g, 0, none⟩) n cap) rs.length (flat M rs)) := fun q => by
        have own : ((w.drewN q).setCell ⟨p, 0, none⟩ (.int .u32 (adr M r.2))).ownsRow B 134 2 (.slice (some ⟨g, 0, none⟩) n cap) (r :: rs).length (flat M (r :: rs)) := (h.drewN q).own.kept (grownBy_set _ p 0 _) (.inr hne)
        exact delete_core (i := 0) (j := 1) own (flat_one M _) (by omega) (by simp) (by omega) ⟨by simp, by simp [flat]⟩
      have HC := Lib.hid C
      have HA := Lib.hid (adv_some hg hr1)
      clear h hg hn hr1 hne C
      go_enter Try.func72, Try.ntmps72
      go_wp2
      go_quiet (fail)
      go_wp2_with fail
      refine (HC.out _).mono ?_
      rintro e w2 ⟨v', rfl, own2, hg2, hv2⟩
      obtain ⟨a', cap', rfl⟩ := own_slice own2
      obtain ⟨n', hn'⟩ : ∃ n', n' = rs.length := ⟨_, rfl⟩
      rw [← hn'] at own2 hv2 ⊢
      have hb2 : Blk w2 p 132 #[.int .u32 (adr M r.2), .slice (some ⟨g, 0, none⟩) n cap] := ((HS.out.blk.drewN _).set_ 0 (.int .u32 (adr M r.2))).grown hg2 (fun e => HN2.out e.symm)
      have k1 := hb2.cell 1
      have k2 := hb2.frozen 1
      have HB2 := Lib.hid hb2
      have HO2 := Lib.hid own2
      have HG2 := Lib.hid hg2
      have HV2 := Lib.hid hv2
      have HN' := Lib.hid hn'
      clear hb2 own2 hg2 hv2 hn'
      go_wp2
      go_end0
      have T : Turned w (w2.setCell ⟨p, 1, none⟩ (.slice a' n' cap')) p (.slice (some ⟨g, 0, none⟩) n cap) (.slice a' n' cap') :=
        ((((Turned.refl w p _).drewN _).trans (Turned.of_set _ p 0 _ _)).trans (Turned.of_grown HG2.out (.inl HV2.out))).trans (Turned.of_set _ p 1 _ _)
      refine ⟨r.2, .slice a' n' cap', shl r.2 rs, rfl, ⟨HS.out.hp, adr_bd _ _, HB2.out.set_ 1 _, ?_⟩, HA.out.1, HA.out.2, hr.2.2, T⟩
      rw [shl_length, ← HN'.out, flat_shl M r.2 rs (fun s hs => by
        obtain ⟨a1, a2, a3⟩ := gp_cons.1 HG.out
        have := a2 s hs; have := a3.2 s hs; omega)]
      refine HO2.out.kept (grownBy_set _ p 1 _) (.inr ?_)
      rw [HV2.out]
      exact HN2.out
    · have ht : (adr M r.1 == (M + 1) % 4294967296) = false := by
        rw [beq_eq_false_iff_ne]; unfold adr; omega
      have H : ∀ q, Hid (Advanced w B p (.slice (some ⟨g, 0, none⟩) n cap) M (r :: rs) (.returned (.tuple #[])) (w.drewN q)) := fun q => ⟨0, _, r :: rs, rfl, by rw [adr_zero M hM]; exact h.drewN q, (adv_none hg (by simpa using hr1)).1, (adv_none hg (by simpa using hr1)).2, by omega, (Turned.refl w p _).drewN q⟩
      clear h hg hn hr1
      go_enter Try.func72, Try.ntmps72
      go_wp2
      go_quiet (fail)
      go_wp2
      go_end0
      exact (H _).out
end Go.Proofs.Ytioddokjogbmnaa.Span

set_option linter.unusedVariables false
set_option linter.unusedSimpArgs false
set_option maxRecDepth 100000
namespace Go.Proofs.Ytioddokjogbmnaa.Span
open Go.ChangeShapes Go.WideShapes Go.ChangeAt Go.RowKit Go.Proofs.Ytioddokjogbmnaa.Ser
/-- What put leaves. -/
def Put (w : World) (B p : Nat) (v : Value) (M : Int) (rs : List (Nat × Nat)) (d : Nat) (e : Ending) (w' : World) : Prop :=
  ∃ v' rs', e = .returned (.tuple #[]) ∧ SetAt w' B p v' M rs' ∧ Gp 1 rs' ∧ (∀ x, knB rs' x = (knB rs x || decide (x = d))) ∧ Turned w w' p v v'
theorem put_fin {w W w3 : World} {B p d : Nat} {v v' : Value} {M : Int} {rs rs' : List (Nat × Nat)} (HT : Turned w W p v v) (hp : B ≤ p) (hM : 0 ≤ M ∧ M ≤ 4294967295) (hb : Blk W p 132 #[.int .u32 M, v]) (hne : v.ownBlock ≠ some p)
    (own3 : w3.ownsRow B 134 2 v' rs'.length (flat M rs')) (hg3 : W.grownBy w3 v.ownBlock) (hv3 : v'.ownBlock = v.ownBlock ∨ v'.ownBlock = some W.heap.size)
    (hG : Gp 1 rs' ∧ ∀ x, knB rs' x = (knB rs x || decide (x = d))) : Put w B p v M rs d (.returned (.tuple #[])) (w3.setCell ⟨p, 1, none⟩ v') := by
  refine ⟨v', rs', rfl, ⟨hp, hM, (hb.grown hg3 (fun e => hne e.symm)).set_ 1 v', own3.kept (grownBy_set _ p 1 _) (.inr ?_)⟩, hG.1, hG.2, (HT.trans (Turned.of_grown hg3 hv3)).trans (Turned.of_set _ p 1 _ _)⟩
  rcases hv3 with e | e
  · rw [e]; exact hne
  · rw [e]; intro e2; injection e2 with e2; have := hb.lt; omega
theorem put_fin2 {w w1 : World} {B p d g j n cap : Nat} {u : Value} {M : Int} {rs rs' : List (Nat × Nat)} (HT : Turned w w1 p (.slice (some ⟨g, 0, none⟩) n cap) (.slice (some ⟨g, 0, none⟩) n cap)) (h : SetAt w1 B p (.slice (some ⟨g, 0, none⟩) n cap) M rs)
    (hn : rs.length = n) (hl : rs'.length = n) (hf : (flat M rs).set j u = flat M rs')
    (hG : Gp 1 rs' ∧ ∀ x, knB rs' x = (knB rs x || decide (x = d))) : Put w B p (.slice (some ⟨g, 0, none⟩) n cap) M rs d (.returned (.tuple #[])) (w1.setCell ⟨g, j, none⟩ u) := by
  have own := h.own
  rw [hn] at own
  have st := own.stored j u
  rw [hf, ← hl] at st
  have hgp : p ≠ g := fun e => h.ne (by simp [Value.ownBlock, e])
  refine ⟨_, rs', rfl, ⟨h.hp, h.hM, h.blk.far hgp u, by rw [hl]; rw [hl] at st; exact st.1⟩, hG.1, hG.2, HT.trans (Turned.of_grown ?_ (.inl rfl))⟩
  exact st.2
theorem SetAt.form {w : World} {B p : Nat} {v : Value} {M : Int} {rs : List (Nat × Nat)} (h : SetAt w B p v M rs) : ∃ a n cap, v = .slice a n cap ∧ n = rs.length := by
  obtain ⟨a, cap, rfl⟩ := own_slice h.own
  exact ⟨_, _, _, rfl, rfl⟩
theorem SetAt.atn {w : World} {B p n cap : Nat} {a0 : Option Addr} {M : Int} {rs : List (Nat × Nat)} (h : SetAt w B p (.slice a0 n cap) M rs) {k : Nat} (hk : k < rs.length) :
    ∃ g, a0 = some ⟨g, 0, none⟩ ∧ B ≤ g ∧ g < w.heap.size ∧ w.cell? ⟨g, k * 2, none⟩ = some (.int .u32 (adr M rs[k].1)) ∧ w.cell? ⟨g, k * 2 + 1, none⟩ = some (.int .u32 (adr M rs[k].2)) := by
  obtain ⟨g, c, hv, h1, h2, h3, h4⟩ := h.at_ hk
  injection hv with e _ _
  exact ⟨g, e, h1, h2, h3, h4⟩
theorem nil_or_snoc {α : Type} (X : List α) : X = [] ∨ ∃ X0 a, X = X0 ++ [a] := by
  rcases List.eq_nil_or_concat X with h | ⟨X0, a, h⟩
  · exact .inl h
  · exact .inr ⟨X0, a, by simpa using h⟩
theorem ins_ct {w1 : World} {B p d i : Nat} {v : Value} {M : Int} {X Y : List (Nat × Nat)} (h : SetAt w1 B p v M (X ++ Y)) (hB : B ≤ w1.heap.size) (hi : i = X.length) (hl : (X ++ Y).length ≤ 4097) :
    Calls Try.prog 84 #[v, .int .i64 (i : Int), .slice (some ⟨w1.heap.size, 0, none⟩) 1 1] (w1.alloc (.cells #[.int .u32 (adr M d), .int .u32 (adr M d)] 134))
      (Inserted (w1.alloc (.cells #[.int .u32 (adr M d), .int .u32 (adr M d)] 134)) B v (X ++ (d, d) :: Y).length (flat M (X ++ (d, d) :: Y))) := by
  subst hi
  refine insert_any (T := 134) (h.own.alloc _) (heap_alloc_new w1 _) ?_ (by simp; omega) ⟨rfl, rfl⟩ (flat_one M _) (by omega) (by simp) ⟨by simp; omega, ?_⟩
  · intro e
    have := (h.own.lt _ e).2
    omega
  · rw [flat_take, flat_drop, flat_append]
    simp [flat]
theorem del_ct {w1 : World} {B p d k g n cap : Nat} {M : Int} {X Y : List (Nat × Nat)} {a y : Nat × Nat} (h : SetAt w1 B p (.slice (some ⟨g, 0, none⟩) n cap) M (X ++ [a] ++ y :: Y)) (hk : k = X.length) (hn : n = (X ++ [a] ++ y :: Y).length) (hl : n ≤ 4097) :
    Calls Try.prog 76 #[.slice (some ⟨g, 0, none⟩) n cap, .int .i64 ((k : Int) + 1), .int .i64 ((k : Int) + 1 + 1)] ((w1.setCell ⟨g, k * 2 + 1, none⟩ (.int .u32 (adr M y.2))).drew)
      (Deleted ((w1.setCell ⟨g, k * 2 + 1, none⟩ (.int .u32 (adr M y.2))).drew) B (.slice (some ⟨g, 0, none⟩) n cap) (X ++ (a.1, y.2) :: Y).length (flat M (X ++ (a.1, y.2) :: Y))) := by
  have own := h.own
  rw [← hn] at own
  have st := (own.stored (k * 2 + 1) (.int .u32 (adr M y.2))).1
  have e1 : (flat M (X ++ [a] ++ y :: Y)).set (k * 2 + 1) (.int .u32 (adr M y.2)) = flat M (X ++ (a.1, y.2) :: y :: Y) := by
    subst hk
    have := flat_set2 M y.2 a (y :: Y) X
    simpa using this
  rw [e1] at st
  have := delete_core (w := (w1.setCell ⟨g, k * 2 + 1, none⟩ (.int .u32 (adr M y.2))).drew) (i := k + 1) (j := k + 1 + 1) (m := (X ++ (a.1, y.2) :: Y).length) (ys := flat M (X ++ (a.1, y.2) :: Y)) st (flat_one M _) (by omega) (by rw [hn]; simp only [List.length_append, List.length_cons, List.length_nil]; omega) (by omega) ⟨by rw [hn]; simp only [List.length_append, List.length_cons, List.length_nil]; omega, by
    have f1 := flat_take M (X ++ [(a.1, y.2)]) (y :: Y)
    have f2 := flat_drop M (X ++ [(a.1, y.2), y]) Y
    simp only [List.length_append, List.length_cons, List.length_nil, List.append_assoc, List.cons_append, List.nil_append, ← hk] at f1 f2
    rw [f1, f2, ← flat_append]
    simp⟩
  exact this
set_option maxHeartbeats 2000000 in
theorem put_any {w : World} {B p d : Nat} {v : Value} {M : Int} {rs : List (Nat × Nat)} (h : SetAt w B p v M rs) (hg : Gp 2 rs) (hd : 1 ≤ d ∧ d ≤ 4096) (hk : knB rs d = false) (hB : B ≤ w.heap.size) :
    Calls Try.prog 71 #[ptr p, .int .u32 (adr M d)] w (Put w B p v M rs d) := by
  have HS := Lib.hid h
  have HG := Lib.hid hg
  have HK := Lib.hid hk
  have hl := gp_len hg
  have hM := h.hM
  obtain ⟨a0, n, cap, rfl, hn⟩ := h.form
  have HN := Lib.hid hn
  rw [← hn] at hl
  clear h hg hk hn
  go_enter Try.func71, Try.ntmps71
  go_wp2_with fail
  refine (find_any HS.out HG.out (by omega)).mono ?_
  rintro e w1 ⟨⟨X, Y, hs, rfl⟩, hb1⟩
  have hcov := (cov_knB HG.out hs).symm.trans HK.out
  have hrs := hs.1
  have HS1 := Lib.hid (HS.out.below hb1)
  have HT1 := Lib.hid (Turned.of_below hb1 p (.slice a0 n cap))
  have hB1 : B ≤ w1.heap.size := Nat.le_trans hB hb1.size
  have h1 := HS1.out.rows
  have hf0 := HS1.out.blk.frozen 0
  have hf1 := HS1.out.blk.frozen 1
  clear hb1 HS hB
  have HC := Lib.hid hcov
  clear hcov
  subst hrs
  have hn := HN.out
  have hpl := HS1.out.blk.lt
  rcases nil_or_snoc X with rfl | ⟨X0, a, rfl⟩
  · rcases Y with _ | ⟨y, Y⟩
    · have HP := Lib.hid (put_none HG.out hs HC.out hd (by simp) (by simp))
      obtain rfl : n = 0 := by simpa using hn
      simp only [List.length_nil]
      clear hn
      have C := Lib.hid (ins_ct (d := d) HS1.out hB1 (i := 0) rfl (by simp))
      clear hs
      go_wp2_with fail
      refine C.out.mono ?_
      rintro e w3 ⟨v', rfl, own3, hg3, hv3⟩
      obtain ⟨a', cap', rfl⟩ := own_slice own3
      obtain ⟨n', hn'⟩ : ∃ n', n' = (([] : List (Nat × Nat)) ++ (d, d) :: []).length := ⟨_, rfl⟩
      rw [← hn'] at own3 hv3 ⊢
      have hbb := ((HS1.out.blk : Blk w1 p 132 #[.int .u32 M, (.slice a0 0 cap)]))
      have hbw : Blk (w1.alloc (.cells #[.int .u32 (adr M d), .int .u32 (adr M d)] 134)) p 132 #[.int .u32 M, (.slice a0 0 cap)] := (Below.heap_alloc w1 _ p hpl).trans hbb
      have hbx := hbw.grown hg3 (fun e => HS1.out.ne e.symm)
      have k1 := hbx.cell 1
      have k2 := hbx.frozen 1
      have HO := Lib.hid own3
      have HG3 := Lib.hid hg3
      have HV3 := Lib.hid hv3
      have HN' := Lib.hid hn'
      have HBW := Lib.hid hbw
      clear own3 hg3 hv3 hn' hbw hbb hbx
      go_wp2
      go_end0
      rw [HN'.out] at HO HV3 ⊢
      exact put_fin (HT1.out.trans (Turned.of_below ((Below.refl _ _).alloc (Nat.le_refl _) _) p _)) HS1.out.hp HS1.out.hM HBW.out HS1.out.ne HO.out HG3.out HV3.out HP.out
    · obtain ⟨g, rfl, hbg, hgl, c0, c1⟩ := HS1.out.atn (k := 0) (by simp)
      simp only [List.nil_append, List.getElem_cons_zero, Nat.zero_mul] at c0 c1
      have hn1 : 0 < n := by rw [hn]; simp
      have hnz : decide (0 < n) = true := decide_eq_true hn1
      simp only [List.length_nil]
      by_cases hjn : d + 1 = y.1
      · have HP := Lib.hid (put_next HG.out hs hd (by simp) hjn)
        have e2 : ((adr M d + 1) % 4294967296 == adr M y.1) = true := by rw [← hjn]; simp [adr_succ]
        have HH : Hid (Put w B p (.slice (some ⟨g, 0, none⟩) n cap) M ([] ++ y :: Y) d (.returned (.tuple #[])) (w1.setCell ⟨g, 0, none⟩ (.int .u32 (adr M d)))) :=
          put_fin2 HT1.out HS1.out hn.symm (by rw [hn]; simp) (flat_set1 M d y Y []) HP.out
        have hgp : ¬ g = p := fun e => HS1.out.ne (by simp [Value.ownBlock, e])
        have hpg : ¬ p = g := fun e => hgp e.symm
        have f1 : w1.frozen? ⟨g, 0, none⟩ = false := by have := HS1.out.own; rw [← hn] at this; exact this.frozenAt _
        clear hn hs hjn
        go_wp2
        go_end0
        exact HH.out
      · have HP := Lib.hid (put_none HG.out hs HC.out hd (by simp) (by simpa using hjn))
        have e2 : ((adr M d + 1) % 4294967296 == adr M y.1) = false := by
          have hy := (gp_append.1 HG.out).2.1.2 y (by simp)
          rw [beq_eq_false_iff_ne, adr_succ]
          intro e
          exact hjn (adr_inj M _ _ (by omega) (by omega) e)
        have hlen := hn
        clear hn hjn
        have C := Lib.hid (ins_ct (d := d) HS1.out hB1 (i := 0) rfl (by rw [← HN.out]; exact hl))
        clear hs hlen
        go_wp2_with fail
        refine C.out.mono ?_
        rintro e w3 ⟨v', rfl, own3, hg3, hv3⟩
        obtain ⟨a', cap', rfl⟩ := own_slice own3
        obtain ⟨n', hn'⟩ : ∃ n', n' = (([] : List (Nat × Nat)) ++ (d, d) :: y :: Y).length := ⟨_, rfl⟩
        rw [← hn'] at own3 hv3 ⊢
        have hbb := ((HS1.out.blk : Blk w1 p 132 #[.int .u32 M, (.slice (some ⟨g, 0, none⟩) n cap)]))
        have hbw : Blk (w1.alloc (.cells #[.int .u32 (adr M d), .int .u32 (adr M d)] 134)) p 132 #[.int .u32 M, (.slice (some ⟨g, 0, none⟩) n cap)] := (Below.heap_alloc w1 _ p hpl).trans hbb
        have hbx := hbw.grown hg3 (fun e => HS1.out.ne e.symm)
        have k1 := hbx.cell 1
        have k2 := hbx.frozen 1
        have HO := Lib.hid own3
        have HG3 := Lib.hid hg3
        have HV3 := Lib.hid hv3
        have HN' := Lib.hid hn'
        have HBW := Lib.hid hbw
        clear own3 hg3 hv3 hn' hbw hbb hbx
        go_wp2
        go_end0
        rw [HN'.out] at HO HV3 ⊢
        exact put_fin (HT1.out.trans (Turned.of_below ((Below.refl _ _).alloc (Nat.le_refl _) _) p _)) HS1.out.hp HS1.out.hM HBW.out HS1.out.ne HO.out HG3.out HV3.out HP.out
  · obtain ⟨k, hk⟩ : ∃ k, k = X0.length := ⟨_, rfl⟩
    have hkl : (X0 ++ [a]).length = k + 1 := by simp [hk]
    rw [hkl]
    have hk1 : k < (X0 ++ [a] ++ Y).length := by rw [List.length_append, hkl]; omega
    obtain ⟨g, rfl, hbg, hgl, _, c1⟩ := HS1.out.atn hk1
    have hga : (X0 ++ [a] ++ Y)[k] = a := by subst hk; simp
    rw [hga] at c1
    have ha4 := (gp_append.1 HG.out).1.2 a (by simp)
    rw [← hn] at hk1
    have HKL := Lib.hid hk
    have hgp : ¬ g = p := fun e => HS1.out.ne (by simp [Value.ownBlock, e])
    have hpg : ¬ p = g := fun e => hgp e.symm
    have f1 : w1.frozen? ⟨g, k * 2 + 1, none⟩ = false := by have := HS1.out.own; rw [← hn] at this; exact this.frozenAt _
    have elast : ∀ b : Bool, decide (a.2 + 1 = d) = b → ((adr M a.2 + 1) % 4294967296 == adr M d) = b := by
      intro b hb
      subst hb
      rw [adr_succ, Bool.eq_iff_iff, beq_iff_eq, decide_eq_true_eq]
      exact ⟨fun e => adr_inj M _ _ (by omega) (by omega) e, fun e => by rw [e]⟩
    have EL := Lib.hid elast
    clear elast
    rcases Y with _ | ⟨y, Y⟩
    · have hnk : n = k + 1 := by rw [hn, List.append_nil, hkl]
      have hc2 : decide ((k : Int) + 1 < (n : Int)) = false := by rw [hnk]; simp
      have hc2' : decide (k + 1 < n) = false := by rw [hnk]; simp
      have HNK := Lib.hid hnk
      by_cases hjl : a.2 + 1 = d
      · have HP := Lib.hid (put_last HG.out hs HC.out hd hjl (by simp))
        have e1 := EL.out _ (decide_eq_true hjl)
        have HH : Hid (Put w B p (.slice (some ⟨g, 0, none⟩) n cap) M (X0 ++ [a] ++ []) d (.returned (.tuple #[])) (w1.setCell ⟨g, k * 2 + 1, none⟩ (.int .u32 (adr M d)))) :=
          put_fin2 HT1.out HS1.out hn.symm (by rw [hn]; simp) (by subst hk; simpa using flat_set2 M d a [] X0) HP.out
        clear hn hs hjl hkl hk hga hnk
        go_wp2
        go_end0
        exact HH.out
      · have HP := Lib.hid (put_none HG.out hs HC.out hd (by simpa using hjl) (by simp))
        have e1 := EL.out _ (decide_eq_false hjl)
        clear hn hjl hk hga hnk
        have C := Lib.hid (ins_ct (d := d) HS1.out hB1 (i := k + 1) hkl.symm (by rw [← HN.out]; exact hl))
        clear hs hkl
        go_wp2_with fail
        refine C.out.mono ?_
        rintro e w3 ⟨v', rfl, own3, hg3, hv3⟩
        obtain ⟨a', cap', rfl⟩ := own_slice own3
        obtain ⟨n', hn'⟩ : ∃ n', n' = (X0 ++ [a] ++ (d, d) :: []).length := ⟨_, rfl⟩
        rw [← hn'] at own3 hv3 ⊢
        have hbb := ((HS1.out.blk : Blk w1 p 132 #[.int .u32 M, (.slice (some ⟨g, 0, none⟩) n cap)]))
        have hbw : Blk (w1.alloc (.cells #[.int .u32 (adr M d), .int .u32 (adr M d)] 134)) p 132 #[.int .u32 M, (.slice (some ⟨g, 0, none⟩) n cap)] := (Below.heap_alloc w1 _ p hpl).trans hbb
        have hbx := hbw.grown hg3 (fun e => HS1.out.ne e.symm)
        have k1 := hbx.cell 1
        have k2 := hbx.frozen 1
        have HO := Lib.hid own3
        have HG3 := Lib.hid hg3
        have HV3 := Lib.hid hv3
        have HN' := Lib.hid hn'
        have HBW := Lib.hid hbw
        clear own3 hg3 hv3 hn' hbw hbb hbx
        go_wp2
        go_end0
        rw [HN'.out] at HO HV3 ⊢
        exact put_fin (HT1.out.trans (Turned.of_below ((Below.refl _ _).alloc (Nat.le_refl _) _) p _)) HS1.out.hp HS1.out.hM HBW.out HS1.out.ne HO.out HG3.out HV3.out HP.out
    · have hnk : k + 1 < n := by rw [hn, List.length_append, hkl]; simp
      have hc2 : decide ((k : Int) + 1 < (n : Int)) = true := by simp; omega
      have hc2' : decide (k + 1 < n) = true := decide_eq_true hnk
      obtain ⟨g', hv1, _, _, c2, c3⟩ := HS1.out.atn (k := k + 1) (by rw [← hn]; exact hnk)
      injection hv1 with hv1
      injection hv1 with hv1
      subst hv1
      have hgy : (X0 ++ [a] ++ y :: Y)[k + 1]'(by rw [← hn]; exact hnk) = y := by subst hk; simp
      rw [hgy] at c2 c3
      have hy4 := (gp_append.1 HG.out).2.1.2 y (by simp)
      have enext : ∀ b : Bool, decide (d + 1 = y.1) = b → ((adr M d + 1) % 4294967296 == adr M y.1) = b := by
        intro b hb
        subst hb
        rw [adr_succ, Bool.eq_iff_iff, beq_iff_eq, decide_eq_true_eq]
        exact ⟨fun e => adr_inj M _ _ (by omega) (by omega) e, fun e => by rw [e]⟩
      have f2 : w1.frozen? ⟨g, (k + 1) * 2, none⟩ = false := by have := HS1.out.own; rw [← hn] at this; exact this.frozenAt _
      have EN := Lib.hid enext
      clear enext
      by_cases hjl : a.2 + 1 = d
      · have e1 := EL.out _ (decide_eq_true hjl)
        by_cases hjn : d + 1 = y.1
        · have HP := Lib.hid (put_both HG.out hs hd hjl hjn)
          have e2 := EN.out _ (decide_eq_true hjn)
          have C := Lib.hid (del_ct (d := d) HS1.out hk hn hl)
          have hbw : Blk ((w1.setCell ⟨g, k * 2 + 1, none⟩ (.int .u32 (adr M y.2))).drew) p 132 #[.int .u32 M, .slice (some ⟨g, 0, none⟩) n cap] := HS1.out.blk.far hpg _
          have HBW := Lib.hid hbw
          have HTW : Hid (Turned w ((w1.setCell ⟨g, k * 2 + 1, none⟩ (.int .u32 (adr M y.2))).drew) p (.slice (some ⟨g, 0, none⟩) n cap) (.slice (some ⟨g, 0, none⟩) n cap)) := by
            refine (HT1.out.trans (Turned.of_grown (grownBy_set w1 g (k * 2 + 1) (.int .u32 (adr M y.2))) (.inl rfl))).drewN 1
          clear hn hs hjl hjn hkl hk hga hgy hbw
          go_wp2_with fail
          go_region
          go_wp2_with fail
          refine C.out.mono ?_
          rintro e w3 ⟨v', rfl, own3, hg3, hv3⟩
          obtain ⟨a', cap', rfl⟩ := own_slice own3
          obtain ⟨n', hn'⟩ : ∃ n', n' = (X0 ++ (a.1, y.2) :: Y).length := ⟨_, rfl⟩
          rw [← hn'] at own3 hv3 ⊢
          have hbx := HBW.out.grown hg3 (fun e => HS1.out.ne e.symm)
          have k1 := hbx.cell 1
          have k2 := hbx.frozen 1
          have HO := Lib.hid own3
          have HG3 := Lib.hid hg3
          have HV3 := Lib.hid hv3
          have HN' := Lib.hid hn'
          clear own3 hg3 hv3 hn' hbx
          go_wp2
          go_end0
          rw [HN'.out] at HO HV3 ⊢
          exact put_fin HTW.out HS1.out.hp HS1.out.hM HBW.out HS1.out.ne HO.out HG3.out (.inl HV3.out) HP.out
        · have HP := Lib.hid (put_last HG.out hs HC.out hd hjl (by simpa using hjn))
          have e2 := EN.out _ (decide_eq_false hjn)
          have HH : Hid (Put w B p (.slice (some ⟨g, 0, none⟩) n cap) M (X0 ++ [a] ++ y :: Y) d (.returned (.tuple #[])) (w1.setCell ⟨g, k * 2 + 1, none⟩ (.int .u32 (adr M d)))) :=
            put_fin2 HT1.out HS1.out hn.symm (by rw [hn]; simp) (by subst hk; simpa using flat_set2 M d a (y :: Y) X0) HP.out
          clear hn hs hjl hjn hkl hk hga hgy
          go_wp2
          go_end0
          exact HH.out
      · have e1 := EL.out _ (decide_eq_false hjl)
        by_cases hjn : d + 1 = y.1
        · have HP := Lib.hid (put_next HG.out hs hd (by simpa using hjl) hjn)
          have e2 := EN.out _ (decide_eq_true hjn)
          have HH : Hid (Put w B p (.slice (some ⟨g, 0, none⟩) n cap) M (X0 ++ [a] ++ y :: Y) d (.returned (.tuple #[])) (w1.setCell ⟨g, (k + 1) * 2, none⟩ (.int .u32 (adr M d)))) :=
            put_fin2 HT1.out HS1.out hn.symm (by rw [hn]; simp) (by rw [← hkl]; exact flat_set1 M d y Y (X0 ++ [a])) HP.out
          clear hn hs hjl hjn hkl hk hga hgy
          go_wp2
          go_end0
          exact HH.out
        · have HP := Lib.hid (put_none HG.out hs HC.out hd (by simpa using hjl) (by simpa using hjn))
          have e2 := EN.out _ (decide_eq_false hjn)
          clear hn hjl hjn hk hga hgy
          have C := Lib.hid (ins_ct (d := d) HS1.out hB1 (i := k + 1) hkl.symm (by rw [← HN.out]; exact hl))
          clear hs hkl
          go_wp2_with fail
          refine C.out.mono ?_
          rintro e w3 ⟨v', rfl, own3, hg3, hv3⟩
          obtain ⟨a', cap', rfl⟩ := own_slice own3
          obtain ⟨n', hn'⟩ : ∃ n', n' = (X0 ++ [a] ++ (d, d) :: y :: Y).length := ⟨_, rfl⟩
          rw [← hn'] at own3 hv3 ⊢
          have hbb := ((HS1.out.blk : Blk w1 p 132 #[.int .u32 M, (.slice (some ⟨g, 0, none⟩) n cap)]))
          have hbw : Blk (w1.alloc (.cells #[.int .u32 (adr M d), .int .u32 (adr M d)] 134)) p 132 #[.int .u32 M, (.slice (some ⟨g, 0, none⟩) n cap)] := (Below.heap_alloc w1 _ p hpl).trans hbb
          have hbx := hbw.grown hg3 (fun e => HS1.out.ne e.symm)
          have k1 := hbx.cell 1
          have k2 := hbx.frozen 1
          have HO := Lib.hid own3
          have HG3 := Lib.hid hg3
          have HV3 := Lib.hid hv3
          have HN' := Lib.hid hn'
          have HBW := Lib.hid hbw
          clear own3 hg3 hv3 hn' hbw hbb hbx
          go_wp2
          go_end0
          rw [HN'.out] at HO HV3 ⊢
          exact put_fin (HT1.out.trans (Turned.of_below ((Below.refl _ _).alloc (Nat.le_refl _) _) p _)) HS1.out.hp HS1.out.hM HBW.out HS1.out.ne HO.out HG3.out HV3.out HP.out
end Go.Proofs.Ytioddokjogbmnaa.Span
