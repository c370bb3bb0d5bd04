/-
  What SpanPlays needs: a set beside the document's.
-/
import Derived.Test.YtgbkmnmkejcogaaSpanRef4
import Derived.Test.YtgbkmnmkejcogaaSpanRnd
import Derived.Deep.CutRange
import Derived.Deep.DeepCutAuto
set_option linter.unusedVariables false
set_option linter.unusedSimpArgs false
namespace Go.Proofs.Ytgbkmnmkejcogaa.Span
open Go.ChangeShapes Go.WideShapes Go.ChangeAt Go.RowKit Go.Proofs.Ytgbkmnmkejcogaa.Ser

/-- A set and the document's, of which the first has mark M and rows rs, the second mark N and K. -/
structure Beside (w wr : World) (pa q : Nat) (v : Value) (M : Int) (rs : List (Nat × Nat)) (N : Int) (K : Nat → Bool) : Prop where
  sa : SetAt wr w.heap.size pa v M rs
  gp : Gp 2 rs
  rf : RefAt wr w.heap.size q N K
  ne : pa ≠ q
  row : v.ownBlock ≠ some q
  below : Below w.heap.size w wr
/-- They agree. -/
def PSt (w wr : World) (pa q : Nat) : Prop := ∃ v M rs, Beside w wr pa q v M rs M (knB rs)
theorem RefAt.turned {w w' : World} {B p q : Nat} {v v' : Value} {M : Int} {K : Nat → Bool} (h : RefAt w B q M K) (T : Turned w w' p v v') (hp : p ≠ q) (hv : v.ownBlock ≠ some q) : RefAt w' B q M K ∧ v'.ownBlock ≠ some q := by
  obtain ⟨h1, h2, cs, h3, h4⟩ := h
  have hlt := h3.lt
  refine ⟨⟨h1, h2, cs, (T.block q hlt (fun e => hp e.symm) (fun e => hv e.symm)).trans h3, h4⟩, ?_⟩
  rcases T.row with e | e | ⟨g, e, hg⟩
  · rw [e]; exact hv
  · rw [e]; simp
  · rw [e]; intro e2; injection e2; omega
theorem SetAt.onlyq {w w' : World} {B p q : Nat} {v : Value} {M : Int} {rs : List (Nat × Nat)} (h : SetAt w B p v M rs) (ho : OnlyQ q w w') (hp : p ≠ q) (hv : v.ownBlock ≠ some q) : SetAt w' B p v M rs :=
  ⟨h.hp, h.hM, h.blk.grown ho (fun e => hp (by injection e)), h.own.kept ho (.inr hv)⟩
theorem Beside.later {w wr w' : World} {pa q : Nat} {v : Value} {M N : Int} {rs : List (Nat × Nat)} {K : Nat → Bool} (h : Beside w wr pa q v M rs N K) (hb : Below wr.heap.size wr w') : Beside w w' pa q v M rs N K :=
  ⟨h.sa.below hb, h.gp, h.rf.below hb, h.ne, h.row, h.below.trans (hb.mono h.below.size)⟩
theorem Beside.first_ {w wr w' : World} {pa q : Nat} {v v' : Value} {M M' N : Int} {rs rs' : List (Nat × Nat)} {K : Nat → Bool} (h : Beside w wr pa q v M rs N K) (hs : SetAt w' w.heap.size pa v' M' rs') (hg : Gp 2 rs') (T : Turned wr w' pa v v') : Beside w w' pa q v' M' rs' N K :=
  ⟨hs, hg, (h.rf.turned T h.ne h.row).1, h.ne, (h.rf.turned T h.ne h.row).2, h.below.trans (h.sa.below_of T)⟩
theorem Beside.second_ {w wr w' : World} {pa q : Nat} {v : Value} {M N N' : Int} {rs : List (Nat × Nat)} {K K' : Nat → Bool} (h : Beside w wr pa q v M rs N K) (hr : RefAt w' w.heap.size q N' K') (ho : OnlyQ q wr w') : Beside w w' pa q v M rs N' K' :=
  ⟨h.sa.onlyq ho h.ne h.row, h.gp, hr, h.ne, h.row, h.below.trans ⟨ho.os, ho.tape, ho.output, ho.size, fun k hk => ho.block k (Nat.lt_of_lt_of_le hk h.below.size) (fun e => by injection e with e; have := h.rf.hq; omega)⟩⟩
/-- The first has met a call. -/
def PMid (w wr : World) (pa q : Nat) (M : Int) (rs : List (Nat × Nat)) (K : Nat → Bool) (s : Nat) : Prop := ∃ v k rs', Beside w wr pa q v (adr M (s + k)) rs' M (knB rs) ∧ Adv K k (knB rs') ∧ Gp 2 rs
theorem PMid.done {w wr w' : World} {pa q : Nat} {M : Int} {rs : List (Nat × Nat)} {K : Nat → Bool} {s : Nat} (h : PMid w wr pa q M rs K s) (hl : RLeft wr w' w.heap.size q M s K) : PSt w w' pa q := by
  obtain ⟨v, k, rs', hb, ha, hg⟩ := h
  obtain ⟨k2, K', hr, hw, ha2, ho⟩ := hl
  obtain ⟨rfl, hK⟩ := adv_unique ha ha2
  refine ⟨v, _, rs', hb.second_ (hr.congr (fun d hd => ?_)) ho⟩
  rcases Nat.eq_zero_or_pos d with rfl | h0
  · rw [kn_far hb.gp (by omega)]
    cases e : K' 0
    · rfl
    · have := hw 0 e; omega
  · exact (hK d h0).symm
theorem PSt.add1 {w wr : World} {pa q : Nat} {t : Int} (h : PSt w wr pa q) (ht : 0 ≤ t ∧ t ≤ 4294967295) :
    ∃ M rs, (Calls Try.prog 19 #[ptr pa, .int .u32 t] wr fun e w' => e = .returned (.int .i64 (newsOf rs (dN M t))) ∧ PMid w w' pa q M rs (addK rs (dN M t)) 0) ∧
      ∀ w2, PMid w w2 pa q M rs (addK rs (dN M t)) 0 → Calls Try.prog 20 #[ptr q, .int .u32 t] w2 fun e w' => e = .returned (.int .i64 (newsOf rs (dN M t))) ∧ PSt w w' pa q := by
  obtain ⟨v, M, rs, hb⟩ := h
  refine ⟨M, rs, (add_t hb.sa hb.gp ht hb.below.size).mono ?_, fun w2 hm => ?_⟩
  · rintro e w' ⟨v', k, rs', rfl, hs, hg, hA, hk, T⟩
    exact ⟨rfl, v', k, rs', by rw [Nat.zero_add]; exact hb.first_ hs hg T, hA, hb.gp⟩
  · have hm2 := hm
    obtain ⟨v2, k2, rs2, hb2, ha2, hg2⟩ := hm2
    have C := radd_any hb2.rf hg2 (dN_lt M t)
    rw [adr_dN M t hb.sa.hM ht] at C
    exact C.mono fun e w' ⟨he, hl⟩ => ⟨he, hm.done hl.out⟩
theorem PSt.skip1 {w wr : World} {pa q : Nat} {t : Int} (h : PSt w wr pa q) (ht : 0 ≤ t ∧ t ≤ 4294967295) :
    ∃ M rs, (Calls Try.prog 17 #[ptr pa, .int .u32 t] wr fun e w' => e = .returned (.bool (okB (dN M t))) ∧ PMid w w' pa q M rs (fun x => knB rs (x + skipS (dN M t))) (skipS (dN M t))) ∧
      ∀ w2, PMid w w2 pa q M rs (fun x => knB rs (x + skipS (dN M t))) (skipS (dN M t)) → Calls Try.prog 18 #[ptr q, .int .u32 t] w2 fun e w' => e = .returned (.bool (okB (dN M t))) ∧ PSt w w' pa q := by
  obtain ⟨v, M, rs, hb⟩ := h
  refine ⟨M, rs, (skip_t hb.sa hb.gp ht).mono ?_, fun w2 hm => ?_⟩
  · rintro e w' ⟨v', k, rs', rfl, hs, hg, hA, hk, T⟩
    exact ⟨rfl, v', k, rs', hb.first_ hs hg T, hA, hb.gp⟩
  · have hm2 := hm
    obtain ⟨v2, k2, rs2, hb2, ha2, hg2⟩ := hm2
    have C := rskip_any hb2.rf hg2 (dN_lt M t)
    rw [adr_dN M t hb.sa.hM ht] at C
    exact C.mono fun e w' ⟨he, hl⟩ => ⟨he, hm.done hl.out⟩
theorem Beside.has2 {w wr : World} {pa q : Nat} {v : Value} {M t : Int} {rs : List (Nat × Nat)} (h : Beside w wr pa q v M rs M (knB rs)) (ht : 0 ≤ t ∧ t ≤ 4294967295) :
    (Calls Try.prog 24 #[ptr pa, .int .u32 t] wr fun e w' => e = .returned (.bool (hasB rs (dN M t))) ∧ Below wr.heap.size wr w') ∧
    Calls Try.prog 25 #[ptr q, .int .u32 t] wr fun e w' => e = .returned (.bool (hasB rs (dN M t))) ∧ wr = w' := by
  refine ⟨has_t h.sa h.gp ht, ?_⟩
  have C := rhas_any h.rf h.gp (dN_lt M t)
  rwa [adr_dN M t h.sa.hM ht] at C

theorem wp_build_run {P : Program} (w : World) {o : Oper} {a : Act} {K : Act → World → Prop} {Q : Exit → Act → World → Prop} (t : TypeId) (x : Operand) (ho : o.op = .build t #[(0, x)]) {u v' : Value} {w' : World} (hx : a.eval x = u)
    (hr : (Instr.build t #[(0, u)]).run P w = .ok v' w') (h : K (a.put o.dst v') w') : o.wp P a w K Q := by
  unfold Oper.wp execOp
  simp only [ho, Sem.run_bind, Sem.run_pure, Result.andThen_ok, List.map_toArray, List.map_cons, List.map_nil, hx, hr]
  exact h
theorem wpList_build_run {P : Program} (w : World) {ops : Array Oper} {rest : List Oper} {o : Oper} {a : Act} {Q : Exit → Act → World → Prop} (hgd : o.guard = none) (t : TypeId) (x : Operand) (ho : o.op = .build t #[(0, x)]) {u v' : Value} {w' : World} (hx : a.eval x = u)
    (hr : (Instr.build t #[(0, u)]).run P w = .ok v' w') (h : wpList P ops Q rest (a.put o.dst v') w') : wpList P ops Q (o :: rest) a w :=
  wpList_plain hgd fun _ hK => wp_build_run w t x ho hx hr (hK _ _ h)
theorem wp_box_run {P : Program} (w : World) {o : Oper} {a : Act} {K : Act → World → Prop} {Q : Exit → Act → World → Prop} (t : TypeId) (x : Operand) (ho : o.op = .box t x) {u v' : Value} {w' : World} (hx : a.eval x = u)
    (hr : (Instr.box t u).run P w = .ok v' w') (h : K (a.put o.dst v') w') : o.wp P a w K Q := by
  unfold Oper.wp execOp
  simp only [ho, Sem.run_bind, Sem.run_pure, Result.andThen_ok, hx, hr]
  exact h
theorem wpList_box_run {P : Program} (w : World) {ops : Array Oper} {rest : List Oper} {o : Oper} {a : Act} {Q : Exit → Act → World → Prop} (hgd : o.guard = none) (t : TypeId) (x : Operand) (ho : o.op = .box t x) {u v' : Value} {w' : World} (hx : a.eval x = u)
    (hr : (Instr.box t u).run P w = .ok v' w') (h : wpList P ops Q rest (a.put o.dst v') w') : wpList P ops Q (o :: rest) a w :=
  wpList_plain hgd fun _ hK => wp_box_run w t x ho hx hr (hK _ _ h)

/-- The cells of a new one. -/
def refNew (M : Int) : Array Value := ⟨.int .u32 M :: List.replicate 4097 (.bool false)⟩
theorem refNew_cells (M : Int) : RefCells (refNew M) M (knB []) := by
  refine ⟨by unfold refNew; rw [List.size_toArray, List.length_cons, List.length_replicate], by unfold refNew; rw [List.getElem?_toArray]; rfl, fun d hd => ?_⟩
  unfold refNew
  rw [List.getElem?_toArray, List.getElem?_cons_succ, List.getElem?_replicate, if_pos hd]
  rfl
theorem ref_info : (Try.prog.info? 45).map (fun i => (i.zero, i.size)) = some (some (.agg (refNew 0)), 4098) := by kernel_rfl
theorem run_build_ref (M : Int) (w : World) : (Instr.build 45 #[(0, .int .u32 M)]).run Try.prog w = .ok (.agg (refNew M)) w := by
  have hz := (zero_of_info ref_info).1
  have hsz : ∀ w, (sizeOf 25).run Try.prog w = .ok 1 w := fun _ => by kernel_rfl
  have hsz2 : ∀ w, (sizeOf 43).run Try.prog w = .ok 4097 w := fun _ => by kernel_rfl
  simp [Instr.build, hz, run_underlying Try.underlying45, hsz, hsz2, Instr.fill, Value.cells]
  have h1 : ¬ (refNew 0 = #[]) := fun e => by
    have := congrArg Array.size e
    rw [(refNew_cells 0).size] at this
    cases this
  have h2 : (refNew 0).setIfInBounds 0 (.int .u32 M) = refNew M := by
    unfold refNew
    rw [List.setIfInBounds_toArray, List.set_cons_zero]
  simp [h1, h2]
theorem run_box_ref (M : Int) (w : World) : (Instr.box 45 (.agg (refNew M))).run Try.prog w = .ok (.pointer (some ⟨w.heap.size, 0, none⟩)) (w.alloc (.cells (refNew M) 45)) := by
  simp [Instr.box, newVar, newRow, Value.cells]
theorem PSt.below {w wr : World} {pa q : Nat} (h : PSt w wr pa q) : Below w.heap.size w wr := by
  obtain ⟨v, M, rs, hb⟩ := h
  exact hb.below
theorem GapsAt.take {w : World} {ua : Option Addr} {n ucap : Nat} {l : List (Nat × Nat)} (h : GapsAt w (.slice ua n ucap) l) (hn : n = l.length) {j : Nat} (hj : j ≤ n) : GapsAt w (.slice ua j ucap) (l.take j) := by
  obtain ⟨a, cap, hv, h⟩ := h
  injection hv with e1 _ e3
  subst e1 e3
  have hl : (l.take j).length = j := by rw [List.length_take]; omega
  refine ⟨ua, ucap, by rw [hl], ?_⟩
  rcases h with rfl | ⟨g, ha, hg, hc⟩
  · exact .inl (by simp)
  · exact .inr ⟨g, ha, hg, fun k hk => by
      have := hc k (by rw [hl] at hk; omega)
      simpa [List.getElem_take] using this⟩
/-- Gaps at a number that is not above nought. -/
theorem gaps_none {w : World} {B p : Nat} {v : Value} {M : Int} {rs : List (Nat × Nat)} {lo : Nat} (h : SetAt w B p v M rs) (hg : Gp lo rs) (most : Int) (hmo : -9223372036854775808 ≤ most ∧ most ≤ 0) :
    Calls Try.prog 22 #[ptr p, .int .i64 most] w fun e w' => (∃ a c, e = .returned (.slice a 0 c)) ∧ Below w.heap.size w w' := by
  refine (gaps_any h hg most (by omega)).mono ?_
  rintro e w' ⟨u, rfl, ho, hb⟩
  have e0 : told rs most = 0 := by unfold told; omega
  rw [e0] at ho
  obtain ⟨a, c, rfl⟩ := own_slice ho
  exact ⟨⟨a, c, rfl⟩, hb⟩
theorem own_cap {w : World} {B : Nat} {e : TypeId} {size n : Nat} {v : Value} {xs : List Value} (h : w.ownsRow B e size v n xs) : ∀ a c, v = .slice a n c → n ≤ c := by
  rintro a c rfl
  rcases h.2 with ⟨h1, h2⟩ | ⟨g, cap, cur, h1, _, _, h2, _⟩
  · omega
  · injection h1 with _ _ h1
    omega
end Go.Proofs.Ytgbkmnmkejcogaa.Span
