/-
  Of the texts Region, Stage: what the laws reach.
-/
import Derived.Test.YtfgfiiknbkakaaaFC1

set_option linter.unusedVariables false
set_option linter.unusedSimpArgs false
namespace Go.Proofs.Ytfgfiiknbkakaaa.Words
open Go.ChangeShapes Go.WideShapes Go.ChangeAt Go.RowKit
section
variable {P : Program} {ops : Array Oper}
/-- What an operation leaves: a value and a world, of which R holds; no way out by panic. -/
def Leaves (P : Program) (R : Value → World → Prop) : Result Next → Prop
  | .ok (.value v) w' => R v w'
  | .ok .skip w' => R undef w'
  | .ok (.enter f args) w' => Calls P f args w' (fun e w'' => ∃ v, e = .returned v ∧ R v w'')
  | _ => False
theorem wp_of_leaves {o : Oper} {a b : Act} {w : World} {R : Value → World → Prop} {K : Act → World → Prop} {Q : Exit → Act → World → Prop} (he : execOp a.eval o = execOp b.eval o)
    (h : Leaves P R ((execOp b.eval o).run P w)) (hK : ∀ v w', R v w' → K (a.put o.dst v) w') : o.wp P a w K Q := by
  unfold Oper.wp
  rw [he]
  generalize (execOp b.eval o).run P w = r at h
  cases r with
  | ok n w' =>
    cases n <;> simp only [Leaves] at h <;> simp only [Oper.upon]
    case value v => exact hK _ _ h
    case skip => exact hK _ _ h
    case enter f args => exact h.mono fun e w'' ⟨v, he, hv⟩ => by subst he; exact hK _ _ hv
  | halt x w' => simp only [Leaves] at h
/-- The frame behind some of the operations, in the order of the text. -/
def puts : List Oper → Nat → (Nat → Bool) → (Nat → Value) → Act → Act
  | [], _, _, _, a => a
  | o :: r, k, L, vs, a => puts r (k + 1) L vs (if L k then a.put o.dst (vs k) else a)
def dstApart (x y : Oper) : Bool := match x.dst with | some d => y.dst != some d | none => true
def dstsB : List Oper → Bool
  | [] => true
  | o :: r => r.all (dstApart o) && dstsB r
theorem puts_out (d : Option Tmp) (v : Value) : ∀ (l : List Oper) (k : Nat) (L : Nat → Bool) (vs : Nat → Value) (a : Act), (∀ o ∈ l, ∀ e, d = some e → o.dst ≠ some e) → puts l k L vs (a.put d v) = (puts l k L vs a).put d v
  | [], _, _, _, _, _ => rfl
  | o :: r, k, L, vs, a, h => by
    unfold puts
    split
    · rw [Act.put_comm a v (vs k) (h o (by simp))]
      exact puts_out d v r _ _ _ _ (fun o' ho' => h o' (by simp [ho']))
    · exact puts_out d v r _ _ _ _ (fun o' ho' => h o' (by simp [ho']))
theorem puts_congr : ∀ (l : List Oper) (k : Nat) (L L' : Nat → Bool) (vs vs' : Nat → Value) (a : Act), (∀ i, k ≤ i → L i = L' i) → (∀ i, k ≤ i → vs i = vs' i) → puts l k L vs a = puts l k L' vs' a
  | [], _, _, _, _, _, _, _, _ => rfl
  | o :: r, k, L, L', vs, vs', a, h, h' => by
    unfold puts
    rw [h k (Nat.le_refl _), h' k (Nat.le_refl _)]
    exact puts_congr r _ _ _ _ _ _ (fun i hi => h i (by omega)) (fun i hi => h' i (by omega))
theorem dstApart_spec {x y : Oper} (h : dstApart x y = true) : ∀ e, x.dst = some e → y.dst ≠ some e := by
  intro e he
  unfold dstApart at h
  rw [he] at h
  simpa using h
theorem puts_put (j : Nat) (oj : Oper) (v : Value) : ∀ (l : List Oper) (k : Nat) (L : Nat → Bool) (vs : Nat → Value) (a : Act), dstsB l = true → k ≤ j → l[j - k]? = some oj → L j = false →
    (puts l k L vs a).put oj.dst v = puts l k (fun i => if i = j then true else L i) (fun i => if i = j then v else vs i) a
  | [], _, _, _, _, _, _, h, _ => by simp at h
  | o :: r, k, L, vs, a, hd, hk, hj, hL => by
    simp only [dstsB, Bool.and_eq_true, List.all_eq_true] at hd
    unfold puts
    by_cases hkj : k = j
    · subst hkj
      simp only [Nat.sub_self, List.getElem?_cons_zero, Option.some.injEq] at hj
      subst hj
      simp only [hL, if_true, Bool.false_eq_true, if_false]
      rw [puts_out _ _ _ _ _ _ _ (fun o' ho' => dstApart_spec (hd.1 o' ho'))]
      congr 1
      exact puts_congr _ _ _ _ _ _ _ (fun i hi => by rw [if_neg (by omega)]) (fun i hi => by rw [if_neg (by omega)])
    · simp only [hkj, if_false]
      refine puts_put j oj v r (k + 1) L vs _ hd.2 (by omega) ?_ hL
      rw [← hj, show j - k = (j - (k + 1)) + 1 by omega, List.getElem?_cons_succ]
/-- Two frames that an operation cannot tell apart. -/
def Agree (T : List Tmp) (a b : Act) : Prop := a.tmps.size = b.tmps.size ∧ ∀ t ∈ T, a.tmps[t]? = b.tmps[t]?
theorem Agree.put {T : List Tmp} {a b : Act} (h : Agree T a b) (d : Option Tmp) (v : Value) : Agree T (a.put d v) (b.put d v) := by
  cases d with
  | none => exact h
  | some d =>
    refine ⟨by simp [Act.put, h.1], fun t ht => ?_⟩
    simp only [Act.put, Array.getElem?_setIfInBounds, h.1, h.2 t ht]
theorem Agree.left {T : List Tmp} {a b : Act} (h : Agree T a b) (d : Option Tmp) (v : Value) (hd : ∀ e, d = some e → e ∉ T) : Agree T (a.put d v) b := by
  cases d with
  | none => exact h
  | some d =>
    refine ⟨by simp [Act.put, h.1], fun t ht => ?_⟩
    have : d ≠ t := fun e => hd d rfl (e ▸ ht)
    simp [Act.put, Array.getElem?_setIfInBounds_ne this, h.2 t ht]
theorem Agree.symm {T : List Tmp} {a b : Act} (h : Agree T a b) : Agree T b a := ⟨h.1.symm, fun t ht => (h.2 t ht).symm⟩
theorem Agree.puts {T : List Tmp} : ∀ (l : List Oper) (k : Nat) (L L' : Nat → Bool) (vs : Nat → Value) (a b : Act), Agree T a b → (∀ i o, l[i]? = some o → L (k + i) ≠ L' (k + i) → ∀ e, o.dst = some e → e ∉ T) →
    Agree T (Words.puts l k L vs a) (Words.puts l k L' vs b)
  | [], _, _, _, _, _, _, h, _ => h
  | o :: r, k, L, L', vs, a, b, h, hd => by
    unfold Words.puts
    refine Agree.puts r (k + 1) L L' vs _ _ ?_ (fun i o' ho' hne => hd (i + 1) o' (by simpa using ho') (by rwa [show k + (i + 1) = k + 1 + i by omega]))
    have h0 := hd 0 o (by simp)
    rw [Nat.add_zero] at h0
    cases hL : L k <;> cases hL' : L' k <;> simp only [Bool.false_eq_true, if_true, if_false]
    · exact h
    · exact (h.symm.left _ _ (h0 (by rw [hL, hL']; decide))).symm
    · exact h.left _ _ (h0 (by rw [hL, hL']; decide))
    · exact h.put _ _
theorem Agree.exec {o : Oper} {a b : Act} (hs : ∀ cs b, o.op ≠ .select cs b) (h : Agree (o.looksAt ops) a b) : execOp a.eval o = execOp b.eval o :=
  execOp_congr o hs fun x hx => by
    cases x with
    | tmp t =>
      have := h.2 t (List.mem_append_left _ (List.mem_filterMap.2 ⟨.tmp t, by simpa using hx, rfl⟩))
      simp only [Act.eval, Array.getD_eq_getD_getElem?, this]
    | _ => rfl
theorem Agree.wanted {o : Oper} {a b : Act} (h : Agree (o.looksAt ops) a b) : Region.wanted o (yielded ops a.tmps) = Region.wanted o (yielded ops b.tmps) := by
  unfold Region.wanted
  cases hg : o.guard with
  | none => rfl
  | some gw =>
    obtain ⟨g, want⟩ := gw
    have hy : yielded ops a.tmps g = yielded ops b.tmps g := by
      unfold yielded
      cases ht : (ops[g]?).bind (·.dst) with
      | none => rfl
      | some t =>
        have := h.2 t (by simp [Oper.looksAt, hg, ht])
        simp [this]
    simp only [hy]
/-- Does operation x wait for operation k? -/
def waits (x : Oper) (k : Nat) : Bool := x.after.any fun e => Region.binds .any e && e.on == k
def looksApart (ops : Array Oper) (i : Nat) (o : Oper) (k : Nat) (x : Oper) : Bool :=
  match x.dst with
  | some d => !(o.looksAt ops).contains d || (if k < i then waits o k else if i < k then waits x i else true)
  | none => true
def monoFrom (ops : Array Oper) (i : Nat) (o : Oper) : Nat → List Oper → Bool
  | _, [] => true
  | k, x :: r => looksApart ops i o k x && monoFrom ops i o (k + 1) r
def monoAll (ops : Array Oper) : Nat → List Oper → Bool
  | _, [] => true
  | i, o :: r => monoFrom ops i o 0 ops.toList && monoAll ops (i + 1) r
def backFrom : Nat → List Oper → Bool
  | _, [] => true
  | i, o :: r => (o.after.all fun e => !Region.binds .any e || decide (e.on < i)) && backFrom (i + 1) r
theorem backFrom_spec : ∀ (l : List Oper) (i : Nat), backFrom i l = true → ∀ j o, l[j]? = some o → ∀ e ∈ o.after, Region.binds .any e = true → e.on < i + j
  | [], _, _, _, _, h => by simp at h
  | y :: r, k, hm, j, x, h => by
    simp only [backFrom, Bool.and_eq_true] at hm
    cases j with
    | zero =>
      simp only [List.getElem?_cons_zero, Option.some.injEq] at h
      subst h
      intro e he hb
      have := Array.all_eq_true_iff_forall_mem.1 hm.1 e he
      simpa [hb] using this
    | succ j => have := backFrom_spec r (k + 1) hm.2 j x (by simpa using h); rwa [show k + (j + 1) = k + 1 + j by omega]
def growB (ops : Array Oper) : Bool := dstsB ops.toList && Region.noSelect ops && monoAll ops 0 ops.toList && backFrom 0 ops.toList
theorem monoFrom_spec {i : Nat} {o : Oper} : ∀ (l : List Oper) (k : Nat), monoFrom ops i o k l = true → ∀ j x, l[j]? = some x → looksApart ops i o (k + j) x = true
  | [], _, _, _, _, h => by simp at h
  | y :: r, k, hm, j, x, h => by
    simp only [monoFrom, Bool.and_eq_true] at hm
    cases j with
    | zero => simp only [List.getElem?_cons_zero, Option.some.injEq] at h; subst h; exact hm.1
    | succ j => have := monoFrom_spec r (k + 1) hm.2 j x (by simpa using h); rwa [show k + (j + 1) = k + 1 + j by omega]
theorem monoAll_spec : ∀ (l : List Oper) (i : Nat), monoAll ops i l = true → ∀ j o, l[j]? = some o → monoFrom ops (i + j) o 0 ops.toList = true
  | [], _, _, _, _, h => by simp at h
  | y :: r, k, hm, j, x, h => by
    simp only [monoAll, Bool.and_eq_true] at hm
    cases j with
    | zero => simp only [List.getElem?_cons_zero, Option.some.injEq] at h; subst h; exact hm.1
    | succ j => have := monoAll_spec r (k + 1) hm.2 j x (by simpa using h); rwa [show k + (j + 1) = k + 1 + j by omega]
/-- How many have not come up yet. -/
def unlisted (listed : Array Bool) (l : List Nat) : Nat := l.countP fun i => !listed.getD i true
theorem getD_le {listed : Array Bool} {i : Nat} (h : listed.getD i false = true) : listed.getD i true = true := by
  rcases Nat.lt_or_ge i listed.size with h' | h'
  · simp [h'] at h ⊢; exact h
  · simp [Array.getElem?_eq_none h']
/-- What is said of an operation's value: which it is; or a property that lasts while memory grows. -/
inductive Told where
  | exact (v : Value)
  | grows (R : Value → World → Prop)
def Told.holds : Told → Value → World → Prop
  | .exact v, u, _ => u = v
  | .grows R, u, w => R u w
def Told.lasts : Told → Prop
  | .exact _ => True
  | .grows R => ∀ v w w', R v w → Below w.heap.size w w' → R v w'
/-- What operation o may lean on: the properties of those that it waits for. -/
def leans (o : Oper) (w : World) : Nat → List (Option (Value × (Value → World → Prop))) → Prop
  | _, [] => True
  | k, none :: F => leans o w (k + 1) F
  | k, some x :: F => (waits o k = true → x.2 x.1 w) ∧ leans o w (k + 1) F
def factsAll (w : World) : List (Option (Value × (Value → World → Prop))) → Prop
  | [] => True
  | none :: F => factsAll w F
  | some x :: F => x.2 x.1 w ∧ factsAll w F
/-- The value that is laid into the frame: the told one, if one is told. -/
def laidV (specs : List Told) (vs : Nat → Value) (k : Nat) : Value := match specs[k]? with | some (.exact v) => v | _ => vs k
def factOf (specs : List Told) (vs : Nat → Value) (k : Nat) : Option (Value × (Value → World → Prop)) := match specs[k]? with | some (.grows R) => some (vs k, R) | _ => none
theorem leans_of {specs : List Told} {vs : Nat → Value} {o : Oper} {w : World} : ∀ (n k : Nat), (∀ i, k ≤ i → i < k + n → waits o i = true → ∀ t, specs[i]? = some t → t.holds (vs i) w) → leans o w k ((List.range n).map fun i => factOf specs vs (k + i))
  | 0, _, _ => trivial
  | n + 1, k, h => by
    rw [List.range_succ_eq_map, List.map_cons, List.map_map]
    have ih := leans_of (specs := specs) (vs := vs) (o := o) (w := w) n (k + 1) (fun i h1 h2 => h i (by omega) (by omega))
    have e : ((List.range n).map ((fun i => factOf specs vs (k + i)) ∘ Nat.succ)) = (List.range n).map fun i => factOf specs vs (k + 1 + i) := by
      apply List.map_congr_left
      intro i _
      simp only [Function.comp, Nat.succ_eq_add_one]
      rw [show k + (i + 1) = k + 1 + i by omega]
    rw [e, Nat.add_zero]
    cases hf : factOf specs vs k with
    | none => exact ih
    | some x =>
      refine ⟨fun hw => ?_, ih⟩
      unfold factOf at hf
      split at hf
      · rename_i R hR
        simp only [Option.some.injEq] at hf
        subst hf
        exact h k (Nat.le_refl _) (by omega) hw _ hR
      · cases hf
theorem factsAll_of {specs : List Told} {vs : Nat → Value} {w : World} : ∀ (n k : Nat), (∀ i, k ≤ i → i < k + n → ∀ t, specs[i]? = some t → t.holds (vs i) w) → factsAll w ((List.range n).map fun i => factOf specs vs (k + i))
  | 0, _, _ => trivial
  | n + 1, k, h => by
    rw [List.range_succ_eq_map, List.map_cons, List.map_map]
    have ih := factsAll_of (specs := specs) (vs := vs) (w := w) n (k + 1) (fun i h1 h2 => h i (by omega) (by omega))
    have e : ((List.range n).map ((fun i => factOf specs vs (k + i)) ∘ Nat.succ)) = (List.range n).map fun i => factOf specs vs (k + 1 + i) := by
      apply List.map_congr_left
      intro i _
      simp only [Function.comp, Nat.succ_eq_add_one]
      rw [show k + (i + 1) = k + 1 + i by omega]
    rw [e, Nat.add_zero]
    cases hf : factOf specs vs k with
    | none => exact ih
    | some x =>
      refine ⟨?_, ih⟩
      unfold factOf at hf
      split at hf
      · rename_i R hR
        simp only [Option.some.injEq] at hf
        subst hf
        exact h k (Nat.le_refl _) (by omega) _ hR
      · cases hf
end
end Go.Proofs.Ytfgfiiknbkakaaa.Words

set_option linter.unusedVariables false
set_option linter.unusedSimpArgs false
namespace Go.Proofs.Ytfgfiiknbkakaaa.Words
open Go.ChangeShapes Go.WideShapes Go.ChangeAt Go.RowKit
section
variable {P : Program} {ops : Array Oper}
def depsOf (o : Oper) : List Nat := (o.after.toList.filter fun e => Region.binds .any e).map (·.on)
/-- All that a set of operations waits for, through whatever stands between. -/
def downs (ops : Array Oper) : Nat → List Nat → List Nat
  | 0, S => S
  | i + 1, S => downs ops i (if S.contains i then (match ops[i]? with | some o => depsOf o ++ S | none => S) else S)
theorem depsOf_spec {o : Oper} {k : Nat} : k ∈ depsOf o ↔ ∃ e ∈ o.after, Region.binds .any e = true ∧ e.on = k := by
  unfold depsOf
  simp only [List.mem_map, List.mem_filter, Array.mem_toList_iff]
  exact ⟨fun ⟨e, ⟨h1, h2⟩, h3⟩ => ⟨e, h1, h2, h3⟩, fun ⟨e, h1, h2, h3⟩ => ⟨e, ⟨h1, h2⟩, h3⟩⟩
theorem downs_spec {L : Nat → Prop} (hL : ∀ i o, ops[i]? = some o → L i → ∀ k ∈ depsOf o, L k) : ∀ (n : Nat) (S : List Nat), (∀ x ∈ S, L x) → ∀ x ∈ downs ops n S, L x
  | 0, S, h => h
  | i + 1, S, h => by
    unfold downs
    refine downs_spec hL i _ ?_
    split
    · rename_i hc
      have hi : L i := h i (by simpa using hc)
      split
      · rename_i o ho
        intro x hx
        rcases List.mem_append.1 hx with hx | hx
        · exact hL i o ho hi x hx
        · exact h x hx
      · exact h
    · exact h
/-- The movers: each waits for the one ahead of it. -/
def chainB (ops : Array Oper) : List Nat → Bool
  | [] => true
  | [i] => decide (i < ops.size)
  | k :: i :: r => decide (k < ops.size) && (decide (k < i) && ((match ops[i]? with | some o => (downs ops i (depsOf o)).contains k | none => false) && chainB ops (i :: r)))
theorem chainB_at : ∀ (ms : List Nat), chainB ops ms = true → ∀ n k i, ms[n]? = some k → ms[n + 1]? = some i → k < i ∧ ∃ o, ops[i]? = some o ∧ k ∈ downs ops i (depsOf o)
  | [], _, n, k, i, h, _ => by simp at h
  | [a], _, n, k, i, _, h => by simp at h
  | a :: b :: r, hc, n, k, i, h1, h2 => by
    simp only [chainB, Bool.and_eq_true, decide_eq_true_eq] at hc
    obtain ⟨_, hlt, hd, hr⟩ := hc
    cases n with
    | zero =>
      simp only [List.getElem?_cons_zero, Option.some.injEq, Nat.zero_add, List.getElem?_cons_succ] at h1 h2
      subst h1 h2
      cases ho : ops[b]? with
      | none => rw [ho] at hd; cases hd
      | some o => rw [ho] at hd; exact ⟨hlt, o, rfl, by simpa using hd⟩
    | succ n => exact chainB_at (b :: r) hr n k i (by simpa using h1) (by simpa using h2)
theorem chainB_size : ∀ (ms : List Nat), chainB ops ms = true → ∀ k ∈ ms, k < ops.size
  | [], _, k, h => by simp at h
  | [a], hc, k, h => by
    simp only [chainB, decide_eq_true_eq] at hc
    simp only [List.mem_singleton] at h
    subst h; exact hc
  | a :: b :: r, hc, k, h => by
    simp only [chainB, Bool.and_eq_true, decide_eq_true_eq] at hc
    rcases List.mem_cons.1 h with rfl | h
    · exact hc.1
    · exact chainB_size (b :: r) hc.2.2.2 k h
/-- What holds while the region goes on: m movers have run. -/
def StageInv (S : Nat → World → Prop) (ms : List Nat) (ops : Array Oper) (a0 : Act) (Φ : Nat → Value → World → Prop) (listed : Array Bool) (a : Act) (w : World) : Prop :=
  ∃ (vs : Nat → Value) (m : Nat), a = puts ops.toList 0 (fun k => listed.getD k true) vs a0 ∧ S m w ∧ m ≤ ms.length ∧ (∀ n k, ms[n]? = some k → (listed.getD k true = true ↔ n < m)) ∧
    (∀ i, i < ops.size → listed.getD i true = true → Φ i (vs i) w) ∧ ∀ i o, ops[i]? = some o → listed.getD i true = true → ∀ e ∈ o.after, Region.binds .any e = true → listed.getD e.on true = true
abbrev Spec := Bool × Told
def moversFrom : Nat → List Spec → List Nat
  | _, [] => []
  | k, (true, _) :: s => k :: moversFrom (k + 1) s
  | k, (false, _) :: s => moversFrom (k + 1) s
def flags (s : List Spec) : Nat := s.countP (·.1)
theorem moversFrom_len : ∀ (s : List Spec) (k : Nat), (moversFrom k s).length = flags s
  | [], _ => rfl
  | (true, _) :: s, k => by simp [moversFrom, flags, moversFrom_len s (k + 1)]
  | (false, _) :: s, k => by simp [moversFrom, flags, moversFrom_len s (k + 1)]
theorem moversFrom_mem : ∀ (s : List Spec) (k j : Nat), j ∈ moversFrom k s ↔ k ≤ j ∧ (s[j - k]?.map (·.1)) = some true
  | [], k, j => by simp [moversFrom]
  | (true, t) :: s, k, j => by
    simp only [moversFrom, List.mem_cons, moversFrom_mem s (k + 1) j]
    constructor
    · rintro (rfl | ⟨h1, h2⟩)
      · simp
      · refine ⟨by omega, ?_⟩
        rw [show j - k = (j - (k + 1)) + 1 by omega, List.getElem?_cons_succ]; exact h2
    · rintro ⟨h1, h2⟩
      rcases Nat.lt_or_ge k j with h | h
      · refine .inr ⟨h, ?_⟩
        rw [show j - k = (j - (k + 1)) + 1 by omega, List.getElem?_cons_succ] at h2; exact h2
      · exact .inl (by omega)
  | (false, t) :: s, k, j => by
    simp only [moversFrom, moversFrom_mem s (k + 1) j]
    constructor
    · rintro ⟨h1, h2⟩
      refine ⟨by omega, ?_⟩
      rw [show j - k = (j - (k + 1)) + 1 by omega, List.getElem?_cons_succ]; exact h2
    · rintro ⟨h1, h2⟩
      rcases Nat.lt_or_ge k j with h | h
      · refine ⟨h, ?_⟩
        rw [show j - k = (j - (k + 1)) + 1 by omega, List.getElem?_cons_succ] at h2; exact h2
      · rw [show j - k = 0 by omega] at h2
        simp at h2
theorem moversFrom_at : ∀ (s : List Spec) (k m j : Nat), (moversFrom k s)[m]? = some j → k ≤ j ∧ m = flags (s.take (j - k))
  | [], k, m, j, h => by simp [moversFrom] at h
  | (true, t) :: s, k, m, j, h => by
    cases m with
    | zero =>
      simp only [moversFrom, List.getElem?_cons_zero, Option.some.injEq] at h
      subst h
      exact ⟨Nat.le_refl _, by simp [flags]⟩
    | succ m =>
      have h2 := moversFrom_at s (k + 1) m j (by simpa [moversFrom] using h)
      refine ⟨by omega, ?_⟩
      rw [show j - k = (j - (k + 1)) + 1 by omega, List.take_succ_cons]
      simp only [flags, List.countP_cons, if_true]
      have := h2.2
      simp only [flags] at this
      omega
  | (false, t) :: s, k, m, j, h => by
    have h2 := moversFrom_at s (k + 1) m j (by simpa [moversFrom] using h)
    refine ⟨by omega, ?_⟩
    rw [show j - k = (j - (k + 1)) + 1 by omega, List.take_succ_cons]
    simp only [flags, List.countP_cons, Bool.false_eq_true, if_false, Nat.add_zero]
    exact h2.2
def Told.isVal : Told → Value → Prop
  | .exact u, v => v = u
  | .grows _, _ => True
def Told.fact : Told → Value → Option (Value × (Value → World → Prop))
  | .exact _, _ => none
  | .grows R, v => some (v, R)
def Told.val : Told → Value → Value
  | .exact u, _ => u
  | .grows _, v => v
theorem Told.isVal_val (t : Told) (v : Value) : t.isVal (t.val v) := by cases t <;> simp [Told.isVal, Told.val]
def toldsOf (s : List Spec) : List Told := s.map (·.2)
theorem laidV_of {s : List Spec} {vs : Nat → Value} {k : Nat} {mv : Bool} {t : Told} (h : s[k]? = some (mv, t)) : laidV (toldsOf s) vs k = t.val (vs k) := by
  unfold laidV toldsOf
  rw [List.getElem?_map, h]
  cases t <;> rfl
theorem factOf_of {s : List Spec} {vs : Nat → Value} {k : Nat} {mv : Bool} {t : Told} (h : s[k]? = some (mv, t)) : factOf (toldsOf s) vs k = t.fact (t.val (vs k)) := by
  unfold factOf toldsOf
  rw [List.getElem?_map, h]
  cases t <;> rfl
section
variable {Rel : World → World → Prop} {S : Nat → World → Prop} {Q : Act → World → Prop} {o : Oper} {r : List Oper} {s : List Spec} {n : Nat} {b : Act} {F : List (Option (Value × (Value → World → Prop)))}
end
end
end Go.Proofs.Ytfgfiiknbkakaaa.Words
