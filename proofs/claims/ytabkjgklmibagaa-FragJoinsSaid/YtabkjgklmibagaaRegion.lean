/-
  A region that draws its order, whose operations make new memory beside each other: each operation's value is told by a property that lasts while memory grows. One obligation an operation; no orders.
-/
import Derived.Test.YtabkjgklmibagaaWords
set_option linter.unusedVariables false
set_option linter.unusedSimpArgs false
namespace Go.Proofs.Ytabkjgklmibagaa.Words
open Go.ChangeShapes Go.WideShapes Go.ChangeAt Go.RowKit

section
variable {P : Program} {ops : Array Oper}

/-- What an operation leaves: a value and a world, of which R holds; no way out by panic. -/
def Leaves (P : Program) (R : Value → World → Prop) : Result Next → Prop
  | .ok (.value v) w' => R v w'
  | .ok .skip w' => R undef w'
  | .ok (.enter f args) w' => Calls P f args w' (fun e w'' => ∃ v, e = .returned v ∧ R v w'')
  | _ => False
theorem wp_of_leaves {o : Oper} {a b : Act} {w : World} {R : Value → World → Prop} {K : Act → World → Prop} {Q : Exit → Act → World → Prop} (he : execOp a.eval o = execOp b.eval o)
    (h : Leaves P R ((execOp b.eval o).run P w)) (hK : ∀ v w', R v w' → K (a.put o.dst v) w') : o.wp P a w K Q := by
  unfold Oper.wp
  rw [he]
  generalize (execOp b.eval o).run P w = r at h
  cases r with
  | ok n w' =>
    cases n <;> simp only [Leaves] at h <;> simp only [Oper.upon]
    case value v => exact hK _ _ h
    case skip => exact hK _ _ h
    case enter f args => exact h.mono fun e w'' ⟨v, he, hv⟩ => by subst he; exact hK _ _ hv
  | halt x w' => simp only [Leaves] at h

/-- The frame behind some of the operations, in the order of the text. -/
def puts : List Oper → Nat → (Nat → Bool) → (Nat → Value) → Act → Act
  | [], _, _, _, a => a
  | o :: r, k, L, vs, a => puts r (k + 1) L vs (if L k then a.put o.dst (vs k) else a)
def dstApart (x y : Oper) : Bool := match x.dst with | some d => y.dst != some d | none => true
def dstsB : List Oper → Bool
  | [] => true
  | o :: r => r.all (dstApart o) && dstsB r
theorem puts_out (d : Option Tmp) (v : Value) : ∀ (l : List Oper) (k : Nat) (L : Nat → Bool) (vs : Nat → Value) (a : Act), (∀ o ∈ l, ∀ e, d = some e → o.dst ≠ some e) → puts l k L vs (a.put d v) = (puts l k L vs a).put d v
  | [], _, _, _, _, _ => rfl
  | o :: r, k, L, vs, a, h => by
    unfold puts
    split
    · rw [Act.put_comm a v (vs k) (h o (by simp))]
      exact puts_out d v r _ _ _ _ (fun o' ho' => h o' (by simp [ho']))
    · exact puts_out d v r _ _ _ _ (fun o' ho' => h o' (by simp [ho']))
theorem puts_congr : ∀ (l : List Oper) (k : Nat) (L L' : Nat → Bool) (vs vs' : Nat → Value) (a : Act), (∀ i, k ≤ i → L i = L' i) → (∀ i, k ≤ i → vs i = vs' i) → puts l k L vs a = puts l k L' vs' a
  | [], _, _, _, _, _, _, _, _ => rfl
  | o :: r, k, L, L', vs, vs', a, h, h' => by
    unfold puts
    rw [h k (Nat.le_refl _), h' k (Nat.le_refl _)]
    exact puts_congr r _ _ _ _ _ _ (fun i hi => h i (by omega)) (fun i hi => h' i (by omega))
theorem dstApart_spec {x y : Oper} (h : dstApart x y = true) : ∀ e, x.dst = some e → y.dst ≠ some e := by
  intro e he
  unfold dstApart at h
  rw [he] at h
  simpa using h
theorem puts_put (j : Nat) (oj : Oper) (v : Value) : ∀ (l : List Oper) (k : Nat) (L : Nat → Bool) (vs : Nat → Value) (a : Act), dstsB l = true → k ≤ j → l[j - k]? = some oj → L j = false →
    (puts l k L vs a).put oj.dst v = puts l k (fun i => if i = j then true else L i) (fun i => if i = j then v else vs i) a
  | [], _, _, _, _, _, _, h, _ => by simp at h
  | o :: r, k, L, vs, a, hd, hk, hj, hL => by
    simp only [dstsB, Bool.and_eq_true, List.all_eq_true] at hd
    unfold puts
    by_cases hkj : k = j
    · subst hkj
      simp only [Nat.sub_self, List.getElem?_cons_zero, Option.some.injEq] at hj
      subst hj
      simp only [hL, if_true, Bool.false_eq_true, if_false]
      rw [puts_out _ _ _ _ _ _ _ (fun o' ho' => dstApart_spec (hd.1 o' ho'))]
      congr 1
      exact puts_congr _ _ _ _ _ _ _ (fun i hi => by rw [if_neg (by omega)]) (fun i hi => by rw [if_neg (by omega)])
    · simp only [hkj, if_false]
      refine puts_put j oj v r (k + 1) L vs _ hd.2 (by omega) ?_ hL
      rw [← hj, show j - k = (j - (k + 1)) + 1 by omega, List.getElem?_cons_succ]

/-- Two frames that an operation cannot tell apart. -/
def Agree (T : List Tmp) (a b : Act) : Prop := a.tmps.size = b.tmps.size ∧ ∀ t ∈ T, a.tmps[t]? = b.tmps[t]?
theorem Agree.put {T : List Tmp} {a b : Act} (h : Agree T a b) (d : Option Tmp) (v : Value) : Agree T (a.put d v) (b.put d v) := by
  cases d with
  | none => exact h
  | some d =>
    refine ⟨by simp [Act.put, h.1], fun t ht => ?_⟩
    simp only [Act.put, Array.getElem?_setIfInBounds, h.1, h.2 t ht]
theorem Agree.left {T : List Tmp} {a b : Act} (h : Agree T a b) (d : Option Tmp) (v : Value) (hd : ∀ e, d = some e → e ∉ T) : Agree T (a.put d v) b := by
  cases d with
  | none => exact h
  | some d =>
    refine ⟨by simp [Act.put, h.1], fun t ht => ?_⟩
    have : d ≠ t := fun e => hd d rfl (e ▸ ht)
    simp [Act.put, Array.getElem?_setIfInBounds_ne this, h.2 t ht]
theorem Agree.symm {T : List Tmp} {a b : Act} (h : Agree T a b) : Agree T b a := ⟨h.1.symm, fun t ht => (h.2 t ht).symm⟩
theorem Agree.puts {T : List Tmp} : ∀ (l : List Oper) (k : Nat) (L L' : Nat → Bool) (vs : Nat → Value) (a b : Act), Agree T a b → (∀ i o, l[i]? = some o → L (k + i) ≠ L' (k + i) → ∀ e, o.dst = some e → e ∉ T) →
    Agree T (Words.puts l k L vs a) (Words.puts l k L' vs b)
  | [], _, _, _, _, _, _, h, _ => h
  | o :: r, k, L, L', vs, a, b, h, hd => by
    unfold Words.puts
    refine Agree.puts r (k + 1) L L' vs _ _ ?_ (fun i o' ho' hne => hd (i + 1) o' (by simpa using ho') (by rwa [show k + (i + 1) = k + 1 + i by omega]))
    have h0 := hd 0 o (by simp)
    rw [Nat.add_zero] at h0
    cases hL : L k <;> cases hL' : L' k <;> simp only [Bool.false_eq_true, if_true, if_false]
    · exact h
    · exact (h.symm.left _ _ (h0 (by rw [hL, hL']; decide))).symm
    · exact h.left _ _ (h0 (by rw [hL, hL']; decide))
    · exact h.put _ _
theorem Agree.exec {o : Oper} {a b : Act} (hs : ∀ cs b, o.op ≠ .select cs b) (h : Agree (o.looksAt ops) a b) : execOp a.eval o = execOp b.eval o :=
  execOp_congr o hs fun x hx => by
    cases x with
    | tmp t =>
      have := h.2 t (List.mem_append_left _ (List.mem_filterMap.2 ⟨.tmp t, by simpa using hx, rfl⟩))
      simp only [Act.eval, Array.getD_eq_getD_getElem?, this]
    | _ => rfl
theorem Agree.wanted {o : Oper} {a b : Act} (h : Agree (o.looksAt ops) a b) : Region.wanted o (yielded ops a.tmps) = Region.wanted o (yielded ops b.tmps) := by
  unfold Region.wanted
  cases hg : o.guard with
  | none => rfl
  | some gw =>
    obtain ⟨g, want⟩ := gw
    have hy : yielded ops a.tmps g = yielded ops b.tmps g := by
      unfold yielded
      cases ht : (ops[g]?).bind (·.dst) with
      | none => rfl
      | some t =>
        have := h.2 t (by simp [Oper.looksAt, hg, ht])
        simp [this]
    simp only [hy]

/-- Does operation x wait for operation k? -/
def waits (x : Oper) (k : Nat) : Bool := x.after.any fun e => Region.binds .any e && e.on == k
def looksApart (ops : Array Oper) (i : Nat) (o : Oper) (k : Nat) (x : Oper) : Bool :=
  match x.dst with
  | some d => !(o.looksAt ops).contains d || (if k < i then waits o k else if i < k then waits x i else true)
  | none => true
def monoFrom (ops : Array Oper) (i : Nat) (o : Oper) : Nat → List Oper → Bool
  | _, [] => true
  | k, x :: r => looksApart ops i o k x && monoFrom ops i o (k + 1) r
def monoAll (ops : Array Oper) : Nat → List Oper → Bool
  | _, [] => true
  | i, o :: r => monoFrom ops i o 0 ops.toList && monoAll ops (i + 1) r
def backFrom : Nat → List Oper → Bool
  | _, [] => true
  | i, o :: r => (o.after.all fun e => !Region.binds .any e || decide (e.on < i)) && backFrom (i + 1) r
theorem backFrom_spec : ∀ (l : List Oper) (i : Nat), backFrom i l = true → ∀ j o, l[j]? = some o → ∀ e ∈ o.after, Region.binds .any e = true → e.on < i + j
  | [], _, _, _, _, h => by simp at h
  | y :: r, k, hm, j, x, h => by
    simp only [backFrom, Bool.and_eq_true] at hm
    cases j with
    | zero =>
      simp only [List.getElem?_cons_zero, Option.some.injEq] at h
      subst h
      intro e he hb
      have := Array.all_eq_true_iff_forall_mem.1 hm.1 e he
      simpa [hb] using this
    | succ j => have := backFrom_spec r (k + 1) hm.2 j x (by simpa using h); rwa [show k + (j + 1) = k + 1 + j by omega]
def growB (ops : Array Oper) : Bool := dstsB ops.toList && Region.noSelect ops && monoAll ops 0 ops.toList && backFrom 0 ops.toList
theorem monoFrom_spec {i : Nat} {o : Oper} : ∀ (l : List Oper) (k : Nat), monoFrom ops i o k l = true → ∀ j x, l[j]? = some x → looksApart ops i o (k + j) x = true
  | [], _, _, _, _, h => by simp at h
  | y :: r, k, hm, j, x, h => by
    simp only [monoFrom, Bool.and_eq_true] at hm
    cases j with
    | zero => simp only [List.getElem?_cons_zero, Option.some.injEq] at h; subst h; exact hm.1
    | succ j => have := monoFrom_spec r (k + 1) hm.2 j x (by simpa using h); rwa [show k + (j + 1) = k + 1 + j by omega]
theorem monoAll_spec : ∀ (l : List Oper) (i : Nat), monoAll ops i l = true → ∀ j o, l[j]? = some o → monoFrom ops (i + j) o 0 ops.toList = true
  | [], _, _, _, _, h => by simp at h
  | y :: r, k, hm, j, x, h => by
    simp only [monoAll, Bool.and_eq_true] at hm
    cases j with
    | zero => simp only [List.getElem?_cons_zero, Option.some.injEq] at h; subst h; exact hm.1
    | succ j => have := monoAll_spec r (k + 1) hm.2 j x (by simpa using h); rwa [show k + (j + 1) = k + 1 + j by omega]

/-- How many have not come up yet. -/
def unlisted (listed : Array Bool) (l : List Nat) : Nat := l.countP fun i => !listed.getD i true
theorem unlisted_mono (listed : Array Bool) (j : Nat) : ∀ l : List Nat, unlisted (listed.setIfInBounds j true) l ≤ unlisted listed l
  | [] => Nat.le_refl _
  | i :: l => by
    have ih := unlisted_mono listed j l
    unfold unlisted at *
    simp only [List.countP_cons]
    have : (!(listed.setIfInBounds j true).getD i true) = true → (!listed.getD i true) = true := by
      intro h
      by_cases e : j = i
      · subst e
        exfalso
        rcases Nat.lt_or_ge j listed.size with h' | h'
        · simp [h'] at h
        · simp [Array.getElem?_eq_none h'] at h
      · rwa [getD_set_ne true e] at h
    by_cases h1 : (!(listed.setIfInBounds j true).getD i true) = true
    · rw [if_pos h1, if_pos (this h1)]; omega
    · rw [if_neg h1]; omega
theorem unlisted_less (listed : Array Bool) (j : Nat) (hj : listed.getD j true = false) : ∀ l : List Nat, j ∈ l → unlisted (listed.setIfInBounds j true) l < unlisted listed l
  | [], h => by simp at h
  | i :: l, h => by
    have hm := unlisted_mono listed j l
    by_cases e : i = j
    · subst e
      unfold unlisted at *
      simp only [List.countP_cons]
      have h1 : (!(listed.setIfInBounds i true).getD i true) = false := by
        have hlt : i < listed.size := by
          rcases Nat.lt_or_ge i listed.size with h' | h'
          · exact h'
          · simp [Array.getElem?_eq_none h'] at hj
        simp [hlt]
      rw [if_neg (by rw [h1]; decide), if_pos (by rw [hj]; rfl)]
      omega
    · have ih := unlisted_less listed j hj l (by simp at h; rcases h with h | h; exact absurd h.symm e; exact h)
      unfold unlisted at *
      simp only [List.countP_cons, getD_set_ne true (Ne.symm e)]
      omega

/-- What holds while the region goes on. -/
def GrowInv (ops : Array Oper) (a0 : Act) (w0 : World) (Φ : Nat → Value → World → Prop) (listed : Array Bool) (a : Act) (w : World) : Prop :=
  ∃ vs : Nat → Value, a = puts ops.toList 0 (fun k => listed.getD k true) vs a0 ∧ Below w0.heap.size w0 w ∧
    (∀ i, i < ops.size → listed.getD i true = true → Φ i (vs i) w) ∧ ∀ i o, ops[i]? = some o → listed.getD i true = true → ∀ e ∈ o.after, Region.binds .any e = true → listed.getD e.on true = true

/-- What is asked of operation number j. -/
def GrowOb (P : Program) (ops : Array Oper) (a0 : Act) (w0 : World) (Φ : Nat → Value → World → Prop) (j : Nat) (o : Oper) : Prop :=
  ∀ (vs : Nat → Value) (w : World), Below w0.heap.size w0 w → (∀ k, waits o k = true → Φ k (vs k) w) →
    if Region.wanted o (yielded ops (puts ops.toList 0 (fun k => decide (k < j)) vs a0).tmps) = true then
      Leaves P (fun v w' => Below w.heap.size w w' ∧ Φ j v w') ((execOp (puts ops.toList 0 (fun k => decide (k < j)) vs a0).eval o).run P w)
    else Φ j undef w

theorem getD_le {listed : Array Bool} {i : Nat} (h : listed.getD i false = true) : listed.getD i true = true := by
  rcases Nat.lt_or_ge i listed.size with h' | h'
  · simp [h'] at h ⊢; exact h
  · simp [Array.getElem?_eq_none h']
theorem wpAny_grow {a0 : Act} {w0 : World} {Φ : Nat → Value → World → Prop} {Q : Exit → Act → World → Prop} (hB : growB ops = true) (hst : ∀ i v w w', Φ i v w → Below w.heap.size w w' → Φ i v w')
    (hob : ∀ j o, ops[j]? = some o → GrowOb P ops a0 w0 Φ j o)
    (hend : ∀ vs w, Below w0.heap.size w0 w → (∀ i, i < ops.size → Φ i (vs i) w) → Q .normal (puts ops.toList 0 (fun _ => true) vs a0) w) :
    ∀ (fuel : Nat) (listed : Array Bool) (a : Act) (w : World), listed.size = ops.size → unlisted listed (List.range ops.size) ≤ fuel → GrowInv ops a0 w0 Φ listed a w → wpAny P .any ops Q fuel listed a w := by
  simp only [growB, Bool.and_eq_true] at hB
  obtain ⟨⟨⟨hB1, hB2⟩, hB3⟩, hB4⟩ := hB
  intro fuel
  have fin : ∀ (listed : Array Bool) (a : Act) (w : World), listed.size = ops.size → (∀ i, i < ops.size → listed.getD i true = true) → GrowInv ops a0 w0 Φ listed a w → Q .normal a w := by
    rintro listed a w hsz hall ⟨vs, rfl, hb, hΦ, _⟩
    have e : puts ops.toList 0 (fun k => listed.getD k true) vs a0 = puts ops.toList 0 (fun _ => true) vs a0 := puts_congr _ _ _ _ _ _ _ (fun i _ => by
      rcases Nat.lt_or_ge i ops.size with h | h
      · exact hall i h
      · simp [Array.getElem?_eq_none (show listed.size ≤ i by omega)]) (fun _ _ => rfl)
    rw [e]
    exact hend vs w hb (fun i hi => hΦ i hi (hall i hi))
  have at_ : ∀ {i : Nat} {o : Oper}, ops[i]? = some o → ops.toList[i]? = some o := fun h => by simpa using h
  have lt_ : ∀ {i : Nat} {o : Oper}, ops[i]? = some o → i < ops.size := fun h => by
    rcases Nat.lt_or_ge _ ops.size with h' | h'
    · exact h'
    · rw [Array.getElem?_eq_none h'] at h; cases h
  have back : ∀ i o, ops[i]? = some o → ∀ e ∈ o.after, Region.binds .any e = true → e.on < i := fun i o ho e he hb => by
    have := backFrom_spec ops.toList 0 hB4 i o (at_ ho) e he hb
    omega
  have toF : ∀ (listed : Array Bool) (k : Nat), listed.size = ops.size → k < ops.size → listed.getD k true = true → listed.getD k false = true := fun listed k hs hk h => by
    have h' : k < listed.size := by omega
    simp [h'] at h ⊢; exact h
  -- whoever has nothing ready has them all
  have all_of : ∀ (listed : Array Bool), listed.size = ops.size → Region.ready .any ops listed = [] → ∀ i, i < ops.size → listed.getD i true = true := by
    intro listed hsz hr i
    induction i using Nat.strongRecOn with
    | _ i ih =>
      intro hi
      cases hli : listed.getD i true with
      | true => rfl
      | false =>
        exfalso
        have : i ∈ Region.ready .any ops listed := mem_ready.2 ⟨hli, ops[i], by simp [hi], fun e he hb => by
          have hlt := back i ops[i] (by simp [hi]) e he hb
          exact toF listed e.on hsz (by omega) (ih e.on hlt (by omega))⟩
        rw [hr] at this
        cases this
  induction fuel with
  | zero =>
    intro listed a w hsz hc hI
    have hall : ∀ i, i < ops.size → listed.getD i true = true := by
      intro i hi
      have h0 : unlisted listed (List.range ops.size) = 0 := by omega
      unfold unlisted at h0
      rw [List.countP_eq_zero] at h0
      have := h0 i (by simpa using hi)
      simpa using this
    refine ⟨?_, fin listed a w hsz hall hI⟩
    unfold Region.ready
    rw [List.filter_eq_nil_iff]
    intro i hi
    have := hall i (by simpa using hi)
    simp [this]
  | succ fuel ih =>
    intro listed a w hsz hc hI
    refine ⟨fun h0 => fin listed a w hsz (all_of listed hsz h0) hI, fun i hi => ?_⟩
    obtain ⟨hun, o, ho, hdeps⟩ := mem_ready.1 hi
    obtain ⟨vs, rfl, hb, hΦ, hdown⟩ := hI
    have hm := monoAll_spec ops.toList 0 hB3 i o (at_ ho)
    rw [Nat.zero_add] at hm
    have wspec : ∀ {x : Oper} {k : Nat}, waits x k = true → ∃ e ∈ x.after, Region.binds .any e = true ∧ e.on = k := fun h => by
      unfold waits at h
      rw [Array.any_eq_true'] at h
      obtain ⟨e, he, h⟩ := h
      simp only [Bool.and_eq_true, beq_iff_eq] at h
      exact ⟨e, he, h⟩
    have hag : Agree (o.looksAt ops) (puts ops.toList 0 (fun k => listed.getD k true) vs a0) (puts ops.toList 0 (fun k => decide (k < i)) vs a0) := by
      refine Agree.puts ops.toList 0 _ _ vs a0 a0 ⟨rfl, fun _ _ => rfl⟩ (fun k x hx hne d hd hmem => ?_)
      have hla := monoFrom_spec ops.toList 0 hm k x hx
      rw [Nat.zero_add] at hla hne
      unfold looksApart at hla
      rw [hd] at hla
      simp only [Bool.or_eq_true, Bool.not_eq_true', List.contains_eq_mem, decide_eq_false_iff_not] at hla
      rcases hla with hla | hla
      · exact hla hmem
      · by_cases h1 : k < i
        · rw [if_pos h1] at hla
          obtain ⟨e, he, hbi, rfl⟩ := wspec hla
          have := getD_le (hdeps e he hbi)
          exact hne (by rw [this]; simp [h1])
        · rw [if_neg h1] at hla
          by_cases h2 : i < k
          · rw [if_pos h2] at hla
            obtain ⟨e, he, hbi, rfl⟩ := wspec hla
            cases hl : listed.getD k true with
            | false => exact hne (by rw [hl]; simp; omega)
            | true =>
              have := hdown k x (by simpa using hx) hl e he hbi
              rw [hun] at this
              cases this
          · obtain rfl : k = i := by omega
            exact hne (by rw [hun]; simp)
    have hob' := hob i o ho vs w hb (fun k hk => by
      obtain ⟨e, he, hbi, rfl⟩ := wspec hk
      exact hΦ e.on (by have := back i o ho e he hbi; have := lt_ ho; omega) (getD_le (hdeps e he hbi)))
    rw [← hag.wanted] at hob'
    have next : ∀ v w', Below w.heap.size w w' → Φ i v w' → wpAny P .any ops Q fuel (listed.setIfInBounds i true) ((puts ops.toList 0 (fun k => listed.getD k true) vs a0).put o.dst v) w' := by
      intro v w' hR hv
      have hsame : ∀ k, (listed.setIfInBounds i true).getD k true = if k = i then true else listed.getD k true := fun k => by
        by_cases hk : k = i
        · subst hk
          have : k < listed.size := by rw [hsz]; exact lt_ ho
          simp [this]
        · rw [if_neg hk, getD_set_ne true (Ne.symm hk)]
      refine ih _ _ w' (by simpa using hsz) ?_ ⟨fun k => if k = i then v else vs k, ?_, hb.trans (hR.mono hb.size), fun k hk hl => ?_, fun k x hx hl e he hbi => ?_⟩
      · have := unlisted_less listed i hun (List.range ops.size) (by simpa using lt_ ho)
        omega
      · rw [puts_put i o v ops.toList 0 _ vs a0 hB1 (Nat.zero_le _) (by simpa using ho) hun]
        exact puts_congr _ _ _ _ _ _ _ (fun k _ => (hsame k).symm) (fun _ _ => rfl)
      · show Φ k (if k = i then v else vs k) w'
        by_cases hk' : k = i
        · subst hk'; rw [if_pos rfl]; exact hv
        · rw [if_neg hk']
          rw [hsame, if_neg hk'] at hl
          exact hst _ _ _ _ (hΦ k hk hl) hR
      · rw [hsame] at hl ⊢
        by_cases hk' : k = i
        · subst hk'
          rw [hx] at ho
          injection ho with ho
          subst ho
          split
          · rfl
          · exact getD_le (hdeps e he hbi)
        · rw [if_neg hk'] at hl
          split
          · rfl
          · exact hdown k x hx hl e he hbi
    unfold wpOp
    rw [ho]
    simp only
    split
    · rename_i hw
      rw [if_pos hw] at hob'
      exact .inl (wp_of_leaves (hag.exec (fun cs b => Region.noSelect_spec hB2 i o cs b ho)) hob' (fun v w' h => next v w' h.1 h.2))
    · rename_i hw
      rw [if_neg hw] at hob'
      exact next undef w (Below.refl _ _) hob'
/-- THE REGION: one obligation an operation; behind it each value has its property. -/
theorem wp_region_grow {id : Nat} {a0 : Act} {w : World} {Φ : Nat → Value → World → Prop} {Q : Exit → Act → World → Prop} (hm : P.follows .mixedOrders = true) (hB : growB ops = true) (hst : ∀ i v w w', Φ i v w → Below w.heap.size w w' → Φ i v w')
    (hob : ∀ j o, ops[j]? = some o → GrowOb P ops a0 w.drew Φ j o)
    (hend : ∀ vs w', Below w.heap.size w w' → (∀ i, i < ops.size → Φ i (vs i) w') → Q .normal (puts ops.toList 0 (fun _ => true) vs a0) w') : (Code.region id ops true).wp P Q a0 w := by
  refine wp_region_any hm (wpAny_grow hB hst hob (fun vs w' hb h => hend vs w' ((Below.refl _ _).drew.trans hb) h) _ _ _ _ (by simp) ?_ ⟨fun _ => undef, ?_, Below.refl _ _, fun i hi h => ?_, fun i o hi h => ?_⟩)
  · have : ∀ (l : List Nat) (L : Array Bool), unlisted L l ≤ l.length := fun l L => List.countP_le_length
    have := this (List.range ops.size) (Array.replicate ops.size false)
    simpa using this
  · have : ∀ (l : List Oper) (k : Nat) (L : Nat → Bool) (vs : Nat → Value) (a : Act), (∀ i, i < l.length → L (k + i) = false) → puts l k L vs a = a := by
      intro l
      induction l with
      | nil => intros; rfl
      | cons o r ih =>
        intro k L vs a h
        unfold puts
        have h0 := h 0 (by simp)
        rw [Nat.add_zero] at h0
        rw [h0, if_neg (by decide)]
        exact ih (k + 1) L vs a (fun i hi => by have := h (i + 1) (by simpa using hi); rwa [show k + 1 + i = k + (i + 1) by omega])
    exact (this ops.toList 0 _ _ a0 (fun i hi => by simp at hi; simp [hi])).symm
  · simp [hi] at h
  · have : i < ops.size := by
      rcases Nat.lt_or_ge i ops.size with h' | h'
      · exact h'
      · rw [Array.getElem?_eq_none h'] at hi; cases hi
    simp [this] at h

/-! ### The same as a walk in the order of the text -/
/-- What is said of an operation's value: which it is; or a property that lasts while memory grows. -/
inductive Told where
  | exact (v : Value)
  | grows (R : Value → World → Prop)
def Told.holds : Told → Value → World → Prop
  | .exact v, u, _ => u = v
  | .grows R, u, w => R u w
def Told.lasts : Told → Prop
  | .exact _ => True
  | .grows R => ∀ v w w', R v w → Below w.heap.size w w' → R v w'
def lastsAll : List Told → Prop
  | [] => True
  | .exact _ :: s => lastsAll s
  | .grows R :: s => (∀ v w w', R v w → Below w.heap.size w w' → R v w') ∧ lastsAll s
theorem lasts_of : ∀ (s : List Told), lastsAll s → ∀ t ∈ s, t.lasts
  | [], _, _, h => by simp at h
  | .exact v :: s, h, t, ht => by
    simp only [List.mem_cons] at ht
    rcases ht with rfl | ht
    · trivial
    · exact lasts_of s h t ht
  | .grows R :: s, h, t, ht => by
    simp only [List.mem_cons] at ht
    rcases ht with rfl | ht
    · exact h.1
    · exact lasts_of s h.2 t ht
/-- What operation o may lean on: the properties of those that it waits for. -/
def leans (o : Oper) (w : World) : Nat → List (Option (Value × (Value → World → Prop))) → Prop
  | _, [] => True
  | k, none :: F => leans o w (k + 1) F
  | k, some x :: F => (waits o k = true → x.2 x.1 w) ∧ leans o w (k + 1) F
def factsAll (w : World) : List (Option (Value × (Value → World → Prop))) → Prop
  | [] => True
  | none :: F => factsAll w F
  | some x :: F => x.2 x.1 w ∧ factsAll w F
def GrowWalk (P : Program) (ops : Array Oper) (w0 : World) (Q : Act → World → Prop) : List Oper → List Told → Act → List (Option (Value × (Value → World → Prop))) → Prop
  | [], _, b, F => ∀ w, Below w0.heap.size w0 w → factsAll w F → Q b w
  | _ :: _, [], _, _ => False
  | o :: r, .exact v :: s, b, F =>
    (∀ w, Below w0.heap.size w0 w → leans o w 0 F → if Region.wanted o (yielded ops b.tmps) = true then Leaves P (fun u w' => Below w.heap.size w w' ∧ u = v) ((execOp b.eval o).run P w) else undef = v) ∧ GrowWalk P ops w0 Q r s (b.put o.dst v) (F ++ [none])
  | o :: r, .grows R :: s, b, F =>
    (∀ w, Below w0.heap.size w0 w → leans o w 0 F → if Region.wanted o (yielded ops b.tmps) = true then Leaves P (fun u w' => Below w.heap.size w w' ∧ R u w') ((execOp b.eval o).run P w) else R undef w) ∧ ∀ v, GrowWalk P ops w0 Q r s (b.put o.dst v) (F ++ [some (v, R)])
theorem growWalk_nil {w0 : World} {Q : Act → World → Prop} {s : List Told} {b : Act} {F : List (Option (Value × (Value → World → Prop)))} (h : ∀ w, Below w0.heap.size w0 w → factsAll w F → Q b w) : GrowWalk P ops w0 Q [] s b F := h
theorem growWalk_exact {w0 : World} {Q : Act → World → Prop} {o : Oper} {r : List Oper} {v : Value} {s : List Told} {b : Act} {F : List (Option (Value × (Value → World → Prop)))} (hg : o.guard = none)
    (h1 : ∀ w, Below w0.heap.size w0 w → leans o w 0 F → Leaves P (fun u w' => Below w.heap.size w w' ∧ u = v) ((execOp b.eval o).run P w)) (h2 : GrowWalk P ops w0 Q r s (b.put o.dst v) (F ++ [none])) : GrowWalk P ops w0 Q (o :: r) (.exact v :: s) b F :=
  ⟨fun w hb hl => by rw [if_pos (by simp [Region.wanted, hg])]; exact h1 w hb hl, h2⟩
theorem growWalk_grows {w0 : World} {Q : Act → World → Prop} {o : Oper} {r : List Oper} {R : Value → World → Prop} {s : List Told} {b : Act} {F : List (Option (Value × (Value → World → Prop)))} (hg : o.guard = none)
    (h1 : ∀ w, Below w0.heap.size w0 w → leans o w 0 F → Leaves P (fun u w' => Below w.heap.size w w' ∧ R u w') ((execOp b.eval o).run P w)) (h2 : ∀ v, GrowWalk P ops w0 Q r s (b.put o.dst v) (F ++ [some (v, R)])) : GrowWalk P ops w0 Q (o :: r) (.grows R :: s) b F :=
  ⟨fun w hb hl => by rw [if_pos (by simp [Region.wanted, hg])]; exact h1 w hb hl, h2⟩

/-- The value that is laid into the frame: the told one, if one is told. -/
def laidV (specs : List Told) (vs : Nat → Value) (k : Nat) : Value := match specs[k]? with | some (.exact v) => v | _ => vs k
def factOf (specs : List Told) (vs : Nat → Value) (k : Nat) : Option (Value × (Value → World → Prop)) := match specs[k]? with | some (.grows R) => some (vs k, R) | _ => none
theorem leans_of {specs : List Told} {vs : Nat → Value} {o : Oper} {w : World} : ∀ (n k : Nat), (∀ i, k ≤ i → i < k + n → waits o i = true → ∀ t, specs[i]? = some t → t.holds (vs i) w) → leans o w k ((List.range n).map fun i => factOf specs vs (k + i))
  | 0, _, _ => trivial
  | n + 1, k, h => by
    rw [List.range_succ_eq_map, List.map_cons, List.map_map]
    have ih := leans_of (specs := specs) (vs := vs) (o := o) (w := w) n (k + 1) (fun i h1 h2 => h i (by omega) (by omega))
    have e : ((List.range n).map ((fun i => factOf specs vs (k + i)) ∘ Nat.succ)) = (List.range n).map fun i => factOf specs vs (k + 1 + i) := by
      apply List.map_congr_left
      intro i _
      simp only [Function.comp, Nat.succ_eq_add_one]
      rw [show k + (i + 1) = k + 1 + i by omega]
    rw [e, Nat.add_zero]
    cases hf : factOf specs vs k with
    | none => exact ih
    | some x =>
      refine ⟨fun hw => ?_, ih⟩
      unfold factOf at hf
      split at hf
      · rename_i R hR
        simp only [Option.some.injEq] at hf
        subst hf
        exact h k (Nat.le_refl _) (by omega) hw _ hR
      · cases hf
theorem factsAll_of {specs : List Told} {vs : Nat → Value} {w : World} : ∀ (n k : Nat), (∀ i, k ≤ i → i < k + n → ∀ t, specs[i]? = some t → t.holds (vs i) w) → factsAll w ((List.range n).map fun i => factOf specs vs (k + i))
  | 0, _, _ => trivial
  | n + 1, k, h => by
    rw [List.range_succ_eq_map, List.map_cons, List.map_map]
    have ih := factsAll_of (specs := specs) (vs := vs) (w := w) n (k + 1) (fun i h1 h2 => h i (by omega) (by omega))
    have e : ((List.range n).map ((fun i => factOf specs vs (k + i)) ∘ Nat.succ)) = (List.range n).map fun i => factOf specs vs (k + 1 + i) := by
      apply List.map_congr_left
      intro i _
      simp only [Function.comp, Nat.succ_eq_add_one]
      rw [show k + (i + 1) = k + 1 + i by omega]
    rw [e, Nat.add_zero]
    cases hf : factOf specs vs k with
    | none => exact ih
    | some x =>
      refine ⟨?_, ih⟩
      unfold factOf at hf
      split at hf
      · rename_i R hR
        simp only [Option.some.injEq] at hf
        subst hf
        exact h k (Nat.le_refl _) (by omega) _ hR
      · cases hf
/-- Off the walk: what it says at each operation, whatever the values. -/
theorem growWalk_at {w0 : World} {Q : Act → World → Prop} {specs : List Told} (vs : Nat → Value) : ∀ (l : List Oper) (s : List Told) (k : Nat) (b : Act), l.length = s.length → (∀ i, s[i]? = specs[k + i]?) →
    GrowWalk P ops w0 Q l s b ((List.range k).map fun i => factOf specs vs (0 + i)) →
    (∀ j o t, l[j]? = some o → s[j]? = some t → ∀ w, Below w0.heap.size w0 w → leans o w 0 ((List.range (k + j)).map fun i => factOf specs vs (0 + i)) →
      if Region.wanted o (yielded ops (puts l k (fun i => decide (i < k + j)) (laidV specs vs) b).tmps) = true then Leaves P (fun u w' => Below w.heap.size w w' ∧ t.holds u w') ((execOp (puts l k (fun i => decide (i < k + j)) (laidV specs vs) b).eval o).run P w) else t.holds undef w) ∧
    (∀ w, Below w0.heap.size w0 w → factsAll w ((List.range (k + l.length)).map fun i => factOf specs vs (0 + i)) → Q (puts l k (fun _ => true) (laidV specs vs) b) w)
  | [], s, k, b, hl, hs, h => ⟨fun j o t hj => by simp at hj, h⟩
  | o :: r, [], k, b, hl, hs, h => by simp at hl
  | o :: r, t :: s, k, b, hl, hs, h => by
    have hk : specs[k]? = some t := by have := hs 0; simpa using this.symm
    have hF : ((List.range (k + 1)).map fun i => factOf specs vs (0 + i)) = ((List.range k).map fun i => factOf specs vs (0 + i)) ++ [factOf specs vs k] := by
      rw [List.range_succ, List.map_append]; simp
    have key : (∀ w, Below w0.heap.size w0 w → leans o w 0 ((List.range k).map fun i => factOf specs vs (0 + i)) → if Region.wanted o (yielded ops b.tmps) = true then Leaves P (fun u w' => Below w.heap.size w w' ∧ t.holds u w') ((execOp b.eval o).run P w) else t.holds undef w) ∧
        GrowWalk P ops w0 Q r s (b.put o.dst (laidV specs vs k)) ((List.range (k + 1)).map fun i => factOf specs vs (0 + i)) := by
      cases t with
      | exact v =>
        have e1 : laidV specs vs k = v := by unfold laidV; rw [hk]
        have e2 : factOf specs vs k = none := by unfold factOf; rw [hk]
        rw [hF, e1, e2]
        exact h
      | grows R =>
        have e1 : laidV specs vs k = vs k := by unfold laidV; rw [hk]
        have e2 : factOf specs vs k = some (vs k, R) := by unfold factOf; rw [hk]
        rw [hF, e1, e2]
        exact ⟨h.1, h.2 (vs k)⟩
    obtain ⟨key1, key2⟩ := key
    have ih := growWalk_at (specs := specs) vs r s (k + 1) (b.put o.dst (laidV specs vs k)) (by simpa using hl) (fun i => by have := hs (i + 1); rw [show k + (i + 1) = k + 1 + i by omega] at this; simpa using this) key2
    constructor
    · intro j oj tj hj htj w hb hle
      cases j with
      | zero =>
        simp only [List.getElem?_cons_zero, Option.some.injEq] at hj htj
        subst hj htj
        have e : puts (o :: r) k (fun i => decide (i < k + 0)) (laidV specs vs) b = b := by
          have : ∀ (l : List Oper) (m : Nat) (a : Act), k ≤ m → puts l m (fun i => decide (i < k + 0)) (laidV specs vs) a = a := by
            intro l
            induction l with
            | nil => intros; rfl
            | cons o r ih =>
              intro m a hm
              unfold puts
              rw [if_neg (by simp; omega)]
              exact ih (m + 1) a (by omega)
          exact this _ k b (Nat.le_refl _)
        rw [e]
        exact key1 w hb hle
      | succ j =>
        have := ih.1 j oj tj (by simpa using hj) (by simpa using htj) w hb (by rw [show k + 1 + j = k + (j + 1) by omega]; exact hle)
        have e : puts (o :: r) k (fun i => decide (i < k + (j + 1))) (laidV specs vs) b = puts r (k + 1) (fun i => decide (i < k + 1 + j)) (laidV specs vs) (b.put o.dst (laidV specs vs k)) := by
          conv => lhs; unfold puts
          rw [if_pos (by simp), show k + (j + 1) = k + 1 + j by omega]
        rw [e]
        exact this
    · intro w hb hall
      have := ih.2 w hb (by rw [show k + 1 + r.length = k + (o :: r).length by simp; omega]; exact hall)
      have e : puts (o :: r) k (fun _ => true) (laidV specs vs) b = puts r (k + 1) (fun _ => true) (laidV specs vs) (b.put o.dst (laidV specs vs k)) := by
        conv => lhs; unfold puts
        rw [if_pos rfl]
      rw [e]
      exact this
/-- THE REGION, WALKED ONCE IN THE ORDER OF THE TEXT, WHATEVER ORDER IS DRAWN. -/
theorem wp_region_told {id : Nat} {a0 : Act} {w : World} {l : List Oper} {Q : Exit → Act → World → Prop} (specs : List Told) (hm : P.follows .mixedOrders = true) (hB : growB l.toArray = true) (hlen : l.length = specs.length) (hst0 : lastsAll specs)
    (h : GrowWalk P l.toArray w.drew (Q .normal) l specs a0 []) : (Code.region id l.toArray true).wp P Q a0 w := by
  have hst := lasts_of specs hst0
  have hB' := hB
  simp only [growB, Bool.and_eq_true] at hB'
  obtain ⟨⟨⟨hB1, hB2⟩, hB3⟩, hB4⟩ := hB'
  refine wp_region_grow (Φ := fun i v w' => match specs[i]? with | some t => t.holds v w' | none => True) hm hB ?_ ?_ ?_
  · intro i v w1 w2 hv hb
    cases hs : specs[i]? with
    | none => simp [hs]
    | some t =>
      simp only [hs] at hv ⊢
      have hl := hst t (List.mem_of_getElem? hs)
      cases t with
      | exact u => exact hv
      | grows R => exact hl v w1 w2 hv hb
  · intro j o hj
    have hj' : l[j]? = some o := by simpa using hj
    have hjl : j < l.length := (List.getElem?_eq_some_iff.1 hj').1
    have hsj : specs[j]? = some (specs[j]'(by omega)) := List.getElem?_eq_getElem (by omega)
    intro vs w1 hb hf
    have hwalk := growWalk_at (specs := specs) vs l specs 0 a0 hlen (fun i => by simp) (by simpa using h)
    have hob := hwalk.1 j o _ hj' hsj w1 hb (by
      rw [Nat.zero_add]
      refine leans_of j 0 (fun i _ hi hw t ht => ?_)
      have := hf i hw
      simp only [ht] at this
      exact this)
    have hm3 := monoAll_spec l.toArray.toList 0 hB3 j o (by simpa using hj')
    rw [Nat.zero_add] at hm3
    have hag : Agree (o.looksAt l.toArray) (puts l.toArray.toList 0 (fun k => decide (k < j)) vs a0) (puts l 0 (fun i => decide (i < 0 + j)) (laidV specs vs) a0) := by
      have gen : ∀ (r : List Oper) (k : Nat) (a b : Act), (∀ i x, r[i]? = some x → l[k + i]? = some x) → Agree (o.looksAt l.toArray) a b → Agree (o.looksAt l.toArray) (puts r k (fun k => decide (k < j)) vs a) (puts r k (fun i => decide (i < 0 + j)) (laidV specs vs) b) := by
        intro r
        induction r with
        | nil => intro k a b _ hab; exact hab
        | cons x r ih =>
          intro k a b hr hab
          unfold puts
          refine ih (k + 1) _ _ (fun i y hy => by have := hr (i + 1) y (by simpa using hy); rwa [show k + 1 + i = k + (i + 1) by omega]) ?_
          rw [Nat.zero_add]
          by_cases hkj : k < j
          · rw [if_pos (by simpa using hkj), if_pos (by simpa using hkj)]
            have hx := hr 0 x (by simp)
            rw [Nat.add_zero] at hx
            by_cases hw : waits o k = true
            · have hk := hf k hw
              have e : laidV specs vs k = vs k := by
                unfold laidV
                cases hs : specs[k]? with
                | none => rfl
                | some t =>
                  simp only [hs] at hk
                  cases t with
                  | exact v => exact hk.symm
                  | grows R => rfl
              rw [e]
              exact hab.put _ _
            · have hla := monoFrom_spec l.toArray.toList 0 hm3 k x (by simpa using hx)
              rw [Nat.zero_add] at hla
              have hno : ∀ d, x.dst = some d → d ∉ o.looksAt l.toArray := by
                intro d hd hmem
                unfold looksApart at hla
                rw [hd] at hla
                simp only [Bool.or_eq_true, Bool.not_eq_true', List.contains_eq_mem, decide_eq_false_iff_not] at hla
                rcases hla with hla | hla
                · exact hla hmem
                · rw [if_pos hkj] at hla; exact hw hla
              exact ((hab.left _ _ hno).symm.left _ _ hno).symm
          · rw [if_neg (by simpa using hkj), if_neg (by simpa using hkj)]
            exact hab
      have := gen l 0 a0 a0 (fun i x hx => by rwa [Nat.zero_add]) ⟨rfl, fun _ _ => rfl⟩
      simpa using this
    have hs2 : (match specs[j]? with | some t => t.holds undef w1 | none => True) = (specs[j]'(by omega)).holds undef w1 := by rw [hsj]
    have hs3 : (fun (v : Value) (w' : World) => Below w1.heap.size w1 w' ∧ (match specs[j]? with | some t => t.holds v w' | none => True)) = fun v w' => Below w1.heap.size w1 w' ∧ (specs[j]'(by omega)).holds v w' := by rw [hsj]
    rw [hag.wanted, hag.exec (fun cs b => Region.noSelect_spec hB2 j o cs b hj)]
    show if _ then Leaves P (fun (v : Value) (w' : World) => Below w1.heap.size w1 w' ∧ (match specs[j]? with | some t => t.holds v w' | none => True)) _ else (match specs[j]? with | some t => t.holds undef w1 | none => True)
    rw [hs2, hs3]
    exact hob
  · intro vs w' hb hall
    have hwalk := growWalk_at (specs := specs) vs l specs 0 a0 hlen (fun i => by simp) (by simpa using h)
    have hbd : Below w.drew.heap.size w.drew w' := ⟨hb.os, hb.tape, hb.output, hb.size, hb.block⟩
    have hend := hwalk.2 w' hbd (factsAll_of _ 0 (fun i _ hi t ht => by
      have := hall i (by simpa using hi)
      simp only [ht] at this
      exact this))
    have e : puts l.toArray.toList 0 (fun _ => true) vs a0 = puts l 0 (fun _ => true) (laidV specs vs) a0 := by
      have gen : ∀ (r : List Oper) (k : Nat) (a : Act), k + r.length ≤ l.length → puts r k (fun _ => true) vs a = puts r k (fun _ => true) (laidV specs vs) a := by
        intro r
        induction r with
        | nil => intros; rfl
        | cons x r ih =>
          intro k a hk
          unfold puts
          simp only [List.length_cons] at hk
          have e : laidV specs vs k = vs k := by
            unfold laidV
            cases hs : specs[k]? with
            | none => rfl
            | some t =>
              have := hall k (by simp; omega)
              simp only [hs] at this
              cases t with
              | exact v => exact this.symm
              | grows R => rfl
          rw [e]
          exact ih (k + 1) _ (by omega)
      have := gen l 0 a0 (by omega)
      simpa using this
    rw [e]
    exact hend
end
end Go.Proofs.Ytabkjgklmibagaa.Words
